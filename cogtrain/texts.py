"""Trains told as texts: parts with `; ` between them, the wheels and joins in the order they are put in."""

from cogtrain.errors import NoText, TrainError
from cogtrain.train import Train

FIGURES = "0123456789"
MOST_FIGURES = 9


def told_teeth(word):
    # Looked at sign by sign, since `int` takes blanks, a plus and other writings too.
    if len(word) < 1 or len(word) > MOST_FIGURES or word[0] == "0":
        raise NoText("teeth are written by one to nine figures, the first no 0")
    if not all([sign in FIGURES for sign in word]):
        raise NoText("teeth are written by the figures 0 to 9")
    return int(word)


def put_part(train, words):
    if len(words) == 2:
        train.put_wheel(words[0], told_teeth(words[1]))
    elif len(words) == 3:
        train.put_join(words[1], words[0], words[2])
    else:
        raise NoText("a part has two words or three, with one blank between them")


def read(text):
    train = Train()
    # Splitting the text of no signs would give one part without signs, and that tells nothing.
    if text == "":
        return train
    try:
        for part in text.split("; "):
            put_part(train, part.split(" "))
    except TrainError as reason:
        raise NoText("the text tells no train") from reason
    return train


def shown(train):
    parts = [f"{name} {teeth}" for name, teeth in train.wheels()]
    for number, kind, one, other in train.joins():
        parts.append(f"{one} {kind} {other}")
    return "; ".join(parts)
