import math
import unittest
from fractions import Fraction

from cogtrain.errors import Jams, NoWheel
from cogtrain.ratios import times
from cogtrain.train import Train
from cogtrain.turning import back_after, factor, ring, road, turns
from walks import (
    KINDS,
    SMALL_TRAINS,
    built,
    hanging,
    jamming_rings,
    names_of_count,
    refusal,
    shares_by_ways,
    small_train,
    walked,
)

GREAT_TWO = 2 ** 1200
GREAT_FIVE = 5 ** 500


def row_train(wheels, kind):
    """The wheels in one row, each joined with the next one."""
    names = [wheel[0] for wheel in wheels]
    return built(wheels, [(kind, one, other) for one, other in zip(names, names[1:])])


class TurningCase(unittest.TestCase):
    def assert_fraction(self, answer):
        self.assertIs(type(answer), tuple)
        top, bottom = answer
        self.assertIs(type(top), int)
        self.assertIs(type(bottom), int)
        self.assertGreaterEqual(bottom, 1)
        self.assertEqual(math.gcd(top, bottom), 1)

    def assert_steps(self, steps):
        self.assertIs(type(steps), list)
        for step in steps:
            self.assertIs(type(step), tuple)
            number, name = step
            self.assertIs(type(number), int)
            self.assertIs(type(name), str)

    def assert_road(self, train, one, other):
        steps = road(train, one, other)
        self.assert_steps(steps)
        self.assertEqual(walked(train, one, steps)[0], other)
        places = [one] + [step[1] for step in steps]
        self.assertEqual(len(set(places)), len(places))
        return steps

    def assert_jams(self, train, name):
        steps = ring(train, name)
        self.assert_steps(steps)
        self.assertGreaterEqual(len(steps), 2)
        begin = steps[-1][1]
        self.assertIn(begin, hanging(train, name))
        end, product = walked(train, begin, steps)
        self.assertEqual(end, begin)
        self.assertNotEqual(product, 1)
        self.assertEqual(len({step[0] for step in steps}), len(steps))
        self.assertEqual(len({step[1] for step in steps}), len(steps))
        self.assertIs(refusal(turns, train, name), Jams)
        self.assertIs(refusal(back_after, train, name), Jams)
        return steps

    def assert_turns(self, train, name, wanted, back):
        answer = turns(train, name)
        self.assertIs(type(answer), list)
        for share in answer:
            if share is not None:
                self.assert_fraction(share)
        self.assertEqual(answer, wanted)
        self.assertIsNone(ring(train, name))
        told = back_after(train, name)
        self.assertIs(type(told), int)
        self.assertEqual(told, back)


class Factor(TurningCase):
    def assert_factor(self, kind, one, other, wanted):
        there = factor(kind, one, other)
        back = factor(kind, other, one)
        self.assert_fraction(there)
        self.assert_fraction(back)
        self.assertEqual(there, wanted)
        self.assertEqual(times(there, back), (1, 1))

    def test_pin(self):
        for one, other in ((1, 1), (5, 5), (6, 4), (1, 10 ** 9 - 1), (GREAT_TWO, GREAT_FIVE)):
            self.assert_factor("pin", one, other, (1, 1))

    def test_band(self):
        self.assert_factor("band", 6, 4, (3, 2))
        self.assert_factor("band", 4, 6, (2, 3))
        self.assert_factor("band", 12, 4, (3, 1))
        self.assert_factor("band", 1, 10 ** 9 - 1, (1, 10 ** 9 - 1))

    def test_mesh_and_cross_turn_the_opposite_way_round(self):
        for kind in ("mesh", "cross"):
            self.assert_factor(kind, 6, 4, (-3, 2))
            self.assert_factor(kind, 4, 6, (-2, 3))
            self.assert_factor(kind, 12, 4, (-3, 1))
            self.assert_factor(kind, 1, 10 ** 9 - 1, (-1, 10 ** 9 - 1))

    def test_equal_teeth(self):
        for teeth in (1, 2, 30, 10 ** 9 - 1, 10 ** 9, GREAT_TWO):
            self.assert_factor("pin", teeth, teeth, (1, 1))
            self.assert_factor("band", teeth, teeth, (1, 1))
            self.assert_factor("mesh", teeth, teeth, (-1, 1))
            self.assert_factor("cross", teeth, teeth, (-1, 1))

    def test_teeth_of_some_hundred_digits(self):
        one = GREAT_TWO * 3 ** 800
        other = GREAT_FIVE * 3 ** 800
        self.assert_factor("band", one, other, (GREAT_TWO, GREAT_FIVE))
        self.assert_factor("mesh", one, other, (-GREAT_TWO, GREAT_FIVE))
        self.assert_factor("cross", one, other, (-GREAT_TWO, GREAT_FIVE))
        self.assert_factor("mesh", GREAT_TWO + 1, GREAT_TWO, (-GREAT_TWO - 1, GREAT_TWO))

    def test_all_small_ones(self):
        signs = {"band": 1, "mesh": -1, "cross": -1}
        for one in range(1, 20):
            for other in range(1, 20):
                self.assert_factor("pin", one, other, (1, 1))
                for kind, sign in signs.items():
                    share = Fraction(sign * one, other)
                    self.assert_factor(kind, one, other, (share.numerator, share.denominator))

    def test_arguments_by_their_names(self):
        self.assertEqual(factor(other=4, one=6, kind="mesh"), (-3, 2))


class Road(TurningCase):
    def test_a_wheel_and_itself(self):
        self.assertEqual(road(built([("a", 5)]), "a", "a"), [])
        train = built([("a", 5), ("b", 6)], [("mesh", "a", "b"), ("pin", "a", "b")])
        self.assertEqual(road(train, "a", "a"), [])
        self.assertEqual(road(train, "b", "b"), [])

    def test_wheels_in_one_row(self):
        train = row_train([("a", 5), ("b", 6), ("c", 7), ("d", 8)], "mesh")
        self.assertEqual(road(train, "a", "d"), [(0, "b"), (1, "c"), (2, "d")])
        self.assertEqual(road(train, "d", "a"), [(2, "c"), (1, "b"), (0, "a")])
        self.assertEqual(road(train, "c", "b"), [(1, "b")])

    def test_numbers_behind_a_join_taken_out(self):
        train = built([("a", 5), ("b", 6), ("c", 7)], [("pin", "b", "c"), ("pin", "b", "c"), ("mesh", "b", "a")])
        train.take_join(0)
        self.assertEqual(road(train, "a", "c"), [(2, "b"), (1, "c")])
        self.assertEqual(road(train, one="c", other="a"), [(1, "b"), (2, "a")])
        train.take_join(1)
        self.assertIsNone(road(train, "a", "c"))

    def test_several_roads(self):
        wheels = [(name, 6) for name in "abcdef"]
        pairs = ("ab", "bc", "cd", "de", "ef", "fa", "be", "ac", "ac")
        train = built(wheels, [("band", one, other) for one, other in pairs])
        for one in "abcdef":
            for other in "abcdef":
                with self.subTest(one=one, other=other):
                    self.assert_road(train, one, other)

    def test_a_dead_end_is_left_again(self):
        wheels = [(name, 6) for name in "abcdefg"]
        train = built(wheels, [("mesh", one, other) for one, other in ("ab", "bc", "cd", "be", "af", "fg")])
        for one in "abcdefg":
            for other in "abcdefg":
                self.assert_road(train, one, other)

    def test_none_where_there_is_none(self):
        train = built([("a", 5), ("b", 6), ("c", 7), ("d", 8)], [("mesh", "a", "b"), ("pin", "c", "d")])
        for one, other in (("a", "c"), ("a", "d"), ("b", "c"), ("d", "b")):
            self.assertIsNone(road(train, one, other))
            self.assertIsNone(road(train, other, one))

    def test_in_a_train_that_jams(self):
        train = built(
            [("a", 5), ("b", 6), ("c", 7), ("d", 8)], [("mesh", "a", "b"), ("pin", "a", "b"), ("band", "b", "c")]
        )
        self.assert_jams(train, "a")
        for one in "abc":
            for other in "abc":
                self.assert_road(train, one, other)
        self.assertIsNone(road(train, "a", "d"))

    def test_a_name_that_no_wheel_has(self):
        train = built([("a", 5), ("b", 6)], [("mesh", "a", "b")])
        for name in ("c", "", "A", "aa", "a "):
            with self.subTest(name=name):
                self.assertIs(refusal(road, train, "a", name), NoWheel)
                self.assertIs(refusal(road, train, name, "a"), NoWheel)
                self.assertIs(refusal(road, train, name, name), NoWheel)
                self.assertIs(refusal(road, train, name, "x" + name), NoWheel)
        self.assertIs(refusal(road, Train(), "a", "a"), NoWheel)
        self.assertIs(refusal(road, Train(), "a", "b"), NoWheel)

    def test_a_hundred_wheels(self):
        names = names_of_count(100)
        train = row_train([(name, 7) for name in names], "pin")
        wanted = list(enumerate(names))[1:]
        self.assertEqual(road(train, names[0], names[99]), [(place - 1, name) for place, name in wanted])

    def test_small_trains(self):
        for seed in range(SMALL_TRAINS):
            train = small_train(seed)
            names = [wheel[0] for wheel in train.wheels()]
            for one in names:
                reached = hanging(train, one)
                for other in names:
                    with self.subTest(seed=seed, one=one, other=other):
                        if other in reached:
                            self.assert_road(train, one, other)
                        else:
                            self.assertIsNone(road(train, one, other))


class Ring(TurningCase):
    def test_none_where_there_is_no_ring(self):
        train = row_train([("a", 5), ("b", 6), ("c", 7)], "mesh")
        for name in ("a", "b", "c", None):
            self.assertIsNone(ring(train, name))
        self.assertIsNone(ring(built([("a", 5)])))

    def test_none_where_every_ring_has_the_factor_one(self):
        wheels = [("a", 5), ("b", 6), ("c", 7), ("d", 8)]
        four = [("mesh", one, other) for one, other in ("ab", "bc", "cd", "da")]
        three = [("band", "a", "b"), ("mesh", "b", "c"), ("cross", "c", "a")]
        twice = [("mesh", "a", "b"), ("mesh", "b", "a"), ("cross", "a", "b")]
        for joins in (four, three, twice, four + twice):
            train = built(wheels, joins)
            for name in "abcd":
                self.assertIsNone(ring(train, name))

    def test_one_join_there_and_back_is_no_ring(self):
        for kind in KINDS:
            self.assertIsNone(ring(built([("a", 5), ("b", 6)], [(kind, "a", "b")])))

    def test_two_joins_between_the_same_two_wheels(self):
        for first in KINDS:
            for second in KINDS:
                for one, other in (("a", "b"), ("b", "a")):
                    train = built([("a", 5), ("b", 6)], [(first, "a", "b"), (second, one, other)])
                    same = first == second or {first, second} == {"mesh", "cross"}
                    for name in ("a", "b"):
                        with self.subTest(first=first, second=second, one=one, name=name):
                            if same:
                                self.assertIsNone(ring(train, name))
                            else:
                                steps = self.assert_jams(train, name)
                                self.assertEqual(sorted(step[0] for step in steps), [0, 1])
                                self.assertEqual(sorted(step[1] for step in steps), ["a", "b"])

    def test_pin_and_band_between_equal_wheels_agree(self):
        train = built([("a", 5), ("b", 5)], [("pin", "a", "b"), ("band", "b", "a")])
        self.assertIsNone(ring(train, "a"))
        train.put_join("mesh", "a", "b")
        self.assertEqual([step[0] for step in self.assert_jams(train, "a")].count(2), 1)

    def test_three_wheels_in_mesh(self):
        train = built([("a", 5), ("b", 6), ("c", 7)], [("mesh", "a", "b"), ("mesh", "b", "c"), ("mesh", "c", "a")])
        for name in ("a", "b", "c"):
            steps = self.assert_jams(train, name)
            self.assertEqual(sorted(step[0] for step in steps), [0, 1, 2])

    def test_longer_rings(self):
        for count in range(3, 12):
            names = names_of_count(count)
            pairs = list(zip(names, names[1:] + names[:1]))
            train = built([(name, 5) for name in names], [("mesh", one, other) for one, other in pairs])
            with self.subTest(count=count):
                if count % 2 == 0:
                    self.assertIsNone(ring(train))
                else:
                    self.assertEqual(len(self.assert_jams(train, names[0])), count)
                    self.assertEqual(len(self.assert_jams(train, names[count // 2])), count)

    def test_a_ring_that_jams_by_its_worth_alone(self):
        # All turn the same way round, and still a pin among bands of unlike teeth doesn't fit.
        train = built([("a", 5), ("b", 6), ("c", 7)], [("band", "a", "b"), ("band", "b", "c"), ("pin", "c", "a")])
        self.assertEqual(len(self.assert_jams(train, "b")), 3)

    def test_a_ring_far_from_the_wheel_that_is_turned(self):
        names = names_of_count(60)
        train = row_train([(name, 9) for name in names], "mesh")
        train.put_join("mesh", names[57], names[59])
        steps = self.assert_jams(train, names[0])
        self.assertEqual(sorted(step[1] for step in steps), names[57:])
        self.assertEqual(sorted(step[0] for step in steps), [57, 58, 59])

    def test_a_jamming_ring_behind_one_of_factor_one(self):
        wheels = [(name, 4) for name in "abcdef"]
        fitting = [("band", "a", "b"), ("band", "b", "c"), ("band", "c", "a")]
        train = built(wheels, fitting + [("pin", "c", "d"), ("mesh", "d", "e"), ("mesh", "e", "f"), ("mesh", "f", "d")])
        for name in "abcdef":
            steps = self.assert_jams(train, name)
            self.assertEqual(sorted(step[1] for step in steps), ["d", "e", "f"])

    def test_none_where_it_jams_among_wheels_that_do_not_hang_on_it(self):
        train = built(
            [("a", 5), ("b", 6), ("c", 7), ("d", 8)], [("mesh", "a", "b"), ("mesh", "c", "d"), ("pin", "c", "d")]
        )
        for name in ("a", "b", None):
            self.assertIsNone(ring(train, name))
        for name in ("c", "d"):
            self.assertEqual(sorted(step[0] for step in self.assert_jams(train, name)), [1, 2])

    def test_behind_a_join_taken_out(self):
        train = built([("a", 5), ("b", 6)], [("mesh", "a", "b"), ("pin", "a", "b"), ("cross", "a", "b")])
        self.assert_jams(train, "a")
        train.take_join(1)
        self.assertIsNone(ring(train, "a"))
        train.take_join(0)
        train.put_join("band", "b", "a")
        self.assertEqual(sorted(step[0] for step in self.assert_jams(train, "a")), [2, 3])

    def test_the_first_wheel_is_meant_without_a_name(self):
        train = built([("a", 5), ("b", 6), ("c", 7)], [("mesh", "b", "c"), ("pin", "b", "c")])
        self.assertIsNone(ring(train))
        self.assertIsNone(ring(train, None))
        self.assertIsNone(ring(train, name=None))
        self.assertIsNotNone(ring(train, name="b"))
        jamming = built([("b", 6), ("a", 5), ("c", 7)], [("mesh", "b", "c"), ("pin", "b", "c")])
        self.assertIsNotNone(ring(jamming))
        self.assertIsNotNone(ring(jamming, None))
        self.assertIsNone(ring(jamming, "a"))

    def test_a_hundred_wheels_and_two_hundred_joins(self):
        names = names_of_count(100)
        train = row_train([(name, 10 ** 9 - 1 - place) for place, name in enumerate(names)], "band")
        for place in range(100):
            train.put_join("band", names[place], names[(place * 37 + 50) % 100])
        self.assertIsNone(ring(train))
        train.put_join("cross", names[98], names[1])
        self.assertEqual(len(train.joins()), 200)
        for name in (names[0], names[50], names[99]):
            self.assertIn(199, [step[0] for step in self.assert_jams(train, name)])

    def test_small_trains(self):
        found = {True: 0, False: 0}
        for seed in range(SMALL_TRAINS):
            train = small_train(seed)
            for name, teeth in train.wheels():
                with self.subTest(seed=seed, name=name):
                    jams = len(jamming_rings(train, name)) > 0
                    found[jams] += 1
                    if jams:
                        self.assert_jams(train, name)
                    else:
                        self.assertIsNone(ring(train, name))
        self.assertGreater(found[True], 100)
        self.assertGreater(found[False], 100)


class Turns(TurningCase):
    def test_one_wheel_alone(self):
        self.assert_turns(built([("a", 5)]), "a", [(1, 1)], 1)

    def test_two_wheels(self):
        wanted = {"mesh": ((-3, 2), (-2, 3)), "cross": ((-3, 2), (-2, 3)), "band": ((3, 2), (2, 3)), "pin": ((1, 1),) * 2}
        for kind, (there, back) in wanted.items():
            for one, other in (("a", "b"), ("b", "a")):
                with self.subTest(kind=kind, one=one):
                    train = built([("a", 6), ("b", 4)], [(kind, one, other)])
                    self.assert_turns(train, "a", [(1, 1), there], there[1])
                    self.assert_turns(train, "b", [back, (1, 1)], back[1])

    def test_without_rings(self):
        train = built(
            [("a", 10), ("b", 4), ("c", 30), ("d", 9), ("e", 6)],
            [("mesh", "a", "b"), ("pin", "b", "c"), ("mesh", "c", "d"), ("cross", "e", "b")],
        )
        self.assert_turns(train, "a", [(1, 1), (-5, 2), (-5, 2), (25, 3), (5, 3)], 6)
        self.assert_turns(train, "d", [(3, 25), (-3, 10), (-3, 10), (1, 1), (1, 5)], 50)

    def test_an_idle_wheel_between_two_others_changes_the_way_round_alone(self):
        train = row_train([("a", 10), ("b", 7), ("c", 20)], "mesh")
        self.assert_turns(train, "a", [(1, 1), (-10, 7), (1, 2)], 14)

    def test_rings_of_factor_one(self):
        wheels = [("a", 5), ("b", 6), ("c", 10), ("d", 15)]
        train = built(wheels, [("mesh", one, other) for one, other in ("ab", "bc", "cd", "da", "ab")])
        self.assert_turns(train, "a", [(1, 1), (-5, 6), (1, 2), (-1, 3)], 6)
        self.assert_turns(train, "c", [(2, 1), (-5, 3), (1, 1), (-2, 3)], 3)

    def test_trains_that_jam(self):
        train = built([("a", 5), ("b", 6), ("c", 7)], [("mesh", "a", "b"), ("mesh", "b", "c"), ("mesh", "c", "a")])
        for name in ("a", "b", "c", None):
            self.assertIs(refusal(turns, train, name), Jams)
            self.assertIs(refusal(back_after, train, name), Jams)
        self.assertIs(refusal(turns, train), Jams)
        self.assertIs(refusal(back_after, train), Jams)

    def test_a_jam_among_wheels_that_do_not_hang_on_it(self):
        train = built([("a", 5), ("b", 6), ("c", 7)], [("mesh", "b", "c"), ("pin", "b", "c")])
        self.assert_turns(train, "a", [(1, 1), None, None], 1)
        self.assert_jams(train, "b")

    def test_wheels_that_do_not_hang_on_the_turned_one(self):
        train = built(
            [("x", 7), ("a", 5), ("y", 11), ("b", 6), ("z", 13)], [("mesh", "a", "b"), ("band", "y", "z")]
        )
        self.assert_turns(train, "a", [None, (1, 1), None, (-5, 6), None], 6)
        self.assert_turns(train, "z", [None, None, (13, 11), None, (1, 1)], 11)
        self.assert_turns(train, "x", [(1, 1), None, None, None, None], 1)

    def test_the_first_wheel_is_meant_without_a_name(self):
        train = built([("z", 4), ("a", 6), ("b", 9)], [("mesh", "a", "z"), ("band", "a", "b")])
        for answer in (turns(train), turns(train, None), turns(train, name=None), turns(train=train, name="z")):
            self.assertEqual(answer, [(1, 1), (-2, 3), (-4, 9)])
        for answer in (back_after(train), back_after(train, None), back_after(train, name="z")):
            self.assertEqual(answer, 9)
        self.assertEqual(turns(train, "a"), [(-3, 2), (1, 1), (2, 3)])
        self.assertEqual(back_after(train, "a"), 6)

    def test_a_train_without_wheels(self):
        for call in (ring, turns, back_after):
            for arguments in ((), (None,), ("a",), ("",)):
                with self.subTest(call=call.__name__, arguments=arguments):
                    self.assertIs(refusal(call, Train(), *arguments), NoWheel)

    def test_a_name_that_no_wheel_has(self):
        free = built([("a", 5), ("b", 6)], [("mesh", "a", "b")])
        jamming = built([("a", 5), ("b", 6)], [("mesh", "a", "b"), ("pin", "a", "b")])
        for train in (free, jamming):
            for call in (ring, turns, back_after):
                for name in ("c", "", "A", "ab", "None", "a "):
                    with self.subTest(call=call.__name__, name=name):
                        self.assertIs(refusal(call, train, name), NoWheel)

    def test_a_hundred_wheels_with_many_teeth(self):
        # Meshes and pins in turn: nothing cancels out along the way, so the shares grow to some hundred digits.
        names = names_of_count(100)
        teeth = [10 ** 9 - 1 - place * place for place in range(100)]
        train = built(list(zip(names, teeth)))
        wanted = [Fraction(1)]
        for place in range(99):
            kind = ("mesh", "pin")[place % 2]
            train.put_join(kind, names[place], names[place + 1])
            step = Fraction(-teeth[place], teeth[place + 1]) if kind == "mesh" else 1
            wanted.append(wanted[-1] * step)
        self.assertGreater(len(str(wanted[-1].denominator)), 300)
        back = math.lcm(*[share.denominator for share in wanted])
        self.assert_turns(train, names[0], [(share.numerator, share.denominator) for share in wanted], back)
        turned = [share / wanted[50] for share in wanted]
        back = math.lcm(*[share.denominator for share in turned])
        self.assert_turns(train, names[50], [(share.numerator, share.denominator) for share in turned], back)

    def test_a_hundred_wheels_round_one(self):
        names = names_of_count(100)
        train = built([(name, 10 ** 9 - 1 - place) for place, name in enumerate(names)])
        for name in names[1:]:
            train.put_join("mesh", name, names[0])
        wanted = [Fraction(-(10 ** 9 - 1), 10 ** 9 - 1 - place) for place in range(100)]
        wanted[0] = Fraction(1)
        back = math.lcm(*[share.denominator for share in wanted])
        self.assert_turns(train, None, [(share.numerator, share.denominator) for share in wanted], back)

    def test_small_trains(self):
        free = 0
        for seed in range(SMALL_TRAINS):
            train = small_train(seed)
            for name, teeth in train.wheels():
                with self.subTest(seed=seed, name=name):
                    if jamming_rings(train, name):
                        self.assert_jams(train, name)
                        continue
                    free += 1
                    wanted = shares_by_ways(train, name)
                    back = math.lcm(*[share[1] for share in wanted if share is not None])
                    self.assert_turns(train, name, wanted, back)
        self.assertGreater(free, 100)


class BackAfter(TurningCase):
    def test_the_least_and_no_multiple(self):
        train = built([("a", 1), ("b", 4), ("c", 6)], [("mesh", "a", "b"), ("band", "a", "c")])
        self.assertEqual(turns(train), [(1, 1), (-1, 4), (1, 6)])
        self.assertEqual(back_after(train), 12)
        self.assertEqual(back_after(train, "b"), 3)
        self.assertEqual(back_after(train, "c"), 2)

    def test_one_where_all_turn_whole_times(self):
        train = built([("a", 12), ("b", 4), ("c", 6), ("d", 1)], [("mesh", "a", other) for other in "bcd"])
        self.assertEqual(back_after(train, "a"), 1)
        self.assertEqual(back_after(train, "d"), 12)

    def test_wheels_that_do_not_hang_on_it_do_not_count(self):
        train = built([("a", 3), ("b", 7), ("c", 2), ("d", 5)], [("mesh", "a", "c"), ("mesh", "b", "d")])
        self.assertEqual(back_after(train, "a"), 2)
        self.assertEqual(back_after(train, "b"), 5)

    def test_each_smaller_number_leaves_some_wheel_part_of_the_way(self):
        counted = 0
        for seed in range(SMALL_TRAINS):
            train = small_train(seed)
            for name, teeth in train.wheels():
                if ring(train, name) is not None:
                    continue
                count = back_after(train, name)
                shares = [Fraction(*share) for share in turns(train, name) if share is not None]
                with self.subTest(seed=seed, name=name):
                    self.assertTrue(all((share * count).denominator == 1 for share in shares))
                    for less in range(1, count):
                        self.assertTrue(any((share * less).denominator != 1 for share in shares))
                counted += count > 1
        self.assertGreater(counted, 50)


if __name__ == "__main__":
    unittest.main()
