"""What the tests share: trains built and small ones made by number, and a slow second reckoning of ways and rings."""

import random
from fractions import Fraction

from cogtrain.train import Train

KINDS = ("mesh", "pin", "band", "cross")


def built(wheels, joins=()):
    train = Train()
    for name, teeth in wheels:
        train.put_wheel(name, teeth)
    for kind, one, other in joins:
        train.put_join(kind, one, other)
    return train


def names_of_count(count):
    letters = "abcdefghijklmnopqrstuvwxyz"
    return ["w" + letters[place // 26] + letters[place % 26] for place in range(count)]


def state(train):
    return (train.wheels(), train.joins())


def refusal(call, *arguments):
    # The very class of what was raised, since every refusal is a TrainError and a ValueError too.
    try:
        call(*arguments)
    except Exception as raised:
        return type(raised)
    return None


def join_factor(kind, one_teeth, other_teeth):
    return {
        "pin": Fraction(1),
        "band": Fraction(one_teeth, other_teeth),
        "mesh": -Fraction(one_teeth, other_teeth),
        "cross": -Fraction(one_teeth, other_teeth),
    }[kind]


def steps_from(train, here):
    teeth = dict(train.wheels())
    steps = []
    for number, kind, one, other in train.joins():
        for start, end in ((one, other), (other, one)):
            if start == here:
                steps.append((number, end, join_factor(kind, teeth[start], teeth[end])))
    return steps


def walked(train, begin, steps):
    """Where the way ends and its factor; fails where a step's join doesn't lead there."""
    here = begin
    product = Fraction(1)
    for number, name in steps:
        fitting = [share for other, end, share in steps_from(train, here) if (other, end) == (number, name)]
        if len(fitting) != 1:
            raise AssertionError(f"join {number} doesn't lead from {here} to {name}")
        product *= fitting[0]
        here = name
    return here, product


def hanging(train, begin):
    found = {begin}
    while True:
        more = {end for here in found for number, end, share in steps_from(train, here)} - found
        if not more:
            return found
        found |= more


def rings_at(train, begin):
    """Every ring that begins at this wheel, as (steps, factor)."""
    rings = []
    ways = [(begin, [], Fraction(1))]
    while ways:
        here, steps, product = ways.pop()
        for number, end, share in steps_from(train, here):
            if number in [step[0] for step in steps] or end in [step[1] for step in steps]:
                continue
            longer = (end, steps + [(number, end)], product * share)
            if end != begin:
                ways.append(longer)
            elif steps:
                rings.append(longer[1:])
    return rings


def jamming_rings(train, name):
    return [
        (steps, product)
        for begin in sorted(hanging(train, name))
        for steps, product in rings_at(train, begin)
        if product != 1
    ]


def shares_by_ways(train, name):
    """What each wheel turns, by some way from the one that is turned, or None; for trains that don't jam there."""
    shares = {name: Fraction(1)}
    waiting = [name]
    while waiting:
        here = waiting.pop()
        for number, end, share in steps_from(train, here):
            if end not in shares:
                shares[end] = shares[here] * share
                waiting.append(end)
    told = []
    for other, teeth in train.wheels():
        share = shares.get(other)
        told.append(None if share is None else (share.numerator, share.denominator))
    return told


def small_train(seed):
    """A train of a few wheels with few unlike teeth, so that rings of factor 1 and jamming ones both come up."""
    chance = random.Random(seed)
    names = ["a", "b", "c", "d", "e", "f"][: chance.randint(1, 6)]
    train = built([(name, chance.choice((1, 2, 2, 3))) for name in names])
    kinds = chance.choice((KINDS, ("band",), ("mesh", "cross"), ("pin", "band", "band"), ("mesh", "band")))
    if len(names) > 1:
        for turn in range(chance.randint(0, 7)):
            train.put_join(chance.choice(kinds), *chance.sample(names, 2))
        for number, kind, one, other in train.joins():
            if chance.random() < 0.15:
                train.take_join(number)
    return train


SMALL_TRAINS = 300
