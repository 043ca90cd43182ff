"""Point 1: no call but a train's three methods changes it, and an answer belongs to whoever asked."""

import copy
import unittest

from cogtrain.errors import Jams
from cogtrain.texts import read, shown
from cogtrain.turning import back_after, ring, road, turns
from walks import SMALL_TRAINS, built, refusal, small_train, state


def free_train():
    return built(
        [("a", 6), ("b", 4), ("c", 3), ("d", 5)], [("mesh", "a", "b"), ("mesh", "b", "c"), ("band", "c", "a")]
    )


def jammed_train():
    return built([("a", 6), ("b", 4), ("c", 3)], [("mesh", "a", "b"), ("mesh", "b", "c"), ("mesh", "c", "a")])


def asked(train):
    """Every question about the train, refusals among the answers."""
    names = [wheel[0] for wheel in train.wheels()] + ["none"]
    told = [train.wheels(), train.joins(), shown(train)]
    for one in names + [None]:
        for call in (ring, turns, back_after):
            told.append(refusal(call, train, one) or call(train, one))
    for one in names:
        for other in names:
            told.append(refusal(road, train, one, other) or road(train, one, other))
    return told


class LeftAsItWas(unittest.TestCase):
    def test_no_question_changes_the_train(self):
        for train in (free_train(), jammed_train()):
            before = state(train)
            asked(train)
            self.assertEqual(state(train), before)
            self.assertEqual(train.put_join("pin", "a", "b"), 3)

    def test_no_question_changes_a_small_train(self):
        for seed in range(SMALL_TRAINS):
            train = small_train(seed)
            first = asked(train)
            with self.subTest(seed=seed):
                self.assertEqual(state(train), state(small_train(seed)))
                self.assertEqual(asked(train), first)

    def test_the_same_train_gives_the_same_answers(self):
        for seed in range(0, SMALL_TRAINS, 5):
            with self.subTest(seed=seed):
                self.assertEqual(asked(small_train(seed)), asked(small_train(seed)))

    def test_questions_about_one_train_do_not_touch_another(self):
        first = free_train()
        second = jammed_train()
        before = asked(first)
        asked(second)
        second.take_join(0)
        asked(second)
        self.assertEqual(asked(first), before)


class BelongsToTheAsker(unittest.TestCase):
    def test_answers_stay_as_they_were_behind_later_calls(self):
        train = free_train()
        told = asked(train)
        kept = copy.deepcopy(told)
        train.put_wheel("e", 7)
        train.put_join("pin", "d", "e")
        train.put_join("mesh", "a", "c")
        asked(train)
        train.take_join(0)
        train.take_join(1)
        asked(train)
        refusal(train.put_wheel, "", 0)
        refusal(train.take_join, 77)
        self.assertEqual(told, kept)

    def test_a_ring_told_stays_behind_the_join_taken_out(self):
        train = jammed_train()
        told = ring(train)
        kept = list(told)
        train.take_join(told[0][0])
        self.assertIsNone(ring(train))
        self.assertEqual(told, kept)

    def test_whoever_alters_an_answer_alters_nothing_else(self):
        for make in (free_train, jammed_train):
            train = make()
            wanted = asked(make())
            for answer in asked(train):
                if isinstance(answer, list):
                    answer.append("more")
                    answer.reverse()
            for answer in asked(train):
                if isinstance(answer, list):
                    answer.clear()
            self.assertEqual(asked(train), wanted)
            self.assertEqual(asked(make()), wanted)

    def test_an_empty_road_is_a_new_list_each_time(self):
        train = free_train()
        road(train, "a", "a").append((0, "b"))
        self.assertEqual(road(train, "a", "a"), [])
        self.assertEqual(road(train, "b", "b"), [])

    def test_each_train_read_is_a_new_one(self):
        for text in ("", "a 5; b 6; a mesh b"):
            first = read(text)
            second = read(text)
            kept = state(second)
            first.put_wheel("c", 7)
            first.put_wheel("d", 7)
            first.put_join("pin", "c", "d")
            self.assertEqual(state(second), kept)
            self.assertEqual(state(read(text)), kept)

    def test_a_refusal_leaves_later_answers_as_they_are(self):
        train = jammed_train()
        self.assertIs(refusal(turns, train), Jams)
        train.take_join(2)
        self.assertEqual(turns(train), [(1, 1), (-3, 2), (2, 1)])
        train.put_join("mesh", "c", "a")
        self.assertIs(refusal(turns, train), Jams)


if __name__ == "__main__":
    unittest.main()
