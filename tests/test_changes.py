"""Point 10: what a wheel more, a join more and a join less change of what the others turn."""

import unittest

from cogtrain.errors import Jams
from cogtrain.turning import back_after, ring, turns
from walks import KINDS, SMALL_TRAINS, built, hanging, jamming_rings, refusal, small_train


def answers(train, name):
    """What is told of the turned wheel, refusals among it."""
    if ring(train, name) is not None:
        return (refusal(turns, train, name), refusal(back_after, train, name))
    return (turns(train, name), back_after(train, name))


def shares_by_name(train, name):
    return dict(zip([wheel[0] for wheel in train.wheels()], turns(train, name)))


def unjammed_cases():
    """Small trains, each with a wheel at which it doesn't jam and the wheels that hang on this one."""
    for seed in range(0, SMALL_TRAINS, 3):
        train = small_train(seed)
        names = [wheel[0] for wheel in train.wheels()]
        for name in names:
            if ring(train, name) is None:
                yield seed, train, name, names, hanging(train, name)


class WheelMore(unittest.TestCase):
    def test_changes_nothing_of_what_others_turn(self):
        train = built([("a", 6), ("b", 4), ("c", 3)], [("mesh", "a", "b")])
        train.put_wheel("d", 7)
        self.assertEqual(turns(train, "a"), [(1, 1), (-3, 2), None, None])
        self.assertEqual(back_after(train, "a"), 2)

    def test_changes_nothing_of_a_jam(self):
        train = built([("a", 6), ("b", 4)], [("mesh", "a", "b"), ("pin", "a", "b")])
        train.put_wheel("d", 7)
        self.assertIs(refusal(turns, train, "a"), Jams)
        self.assertEqual(turns(train, "d"), [None, None, (1, 1)])

    def test_small_trains(self):
        for seed in range(SMALL_TRAINS):
            train = small_train(seed)
            names = [wheel[0] for wheel in train.wheels()]
            before = [answers(train, name) for name in names]
            jammed = [jamming_rings(train, name) for name in names]
            train.put_wheel("more", 5)
            for name, told, rings in zip(names, before, jammed):
                with self.subTest(seed=seed, name=name):
                    if rings:
                        self.assertEqual(answers(train, name), (Jams, Jams))
                        self.assertEqual(jamming_rings(train, name), rings)
                    else:
                        self.assertEqual(answers(train, name), (told[0] + [None], told[1]))


class JoinMore(unittest.TestCase):
    def test_between_two_wheels_that_hang_on_it(self):
        for kind in KINDS:
            train = built([("a", 6), ("b", 4), ("c", 3)], [("mesh", "a", "b"), ("mesh", "b", "c")])
            before = answers(train, "a")
            train.put_join(kind, "c", "a")
            with self.subTest(kind=kind):
                # a turns c by b the same way round, and twice as fast: as a band between them does.
                if kind == "band":
                    self.assertEqual(answers(train, "a"), before)
                else:
                    self.assertEqual(answers(train, "a"), (Jams, Jams))
                    self.assertIn(2, [step[0] for step in ring(train, "a")])

    def test_from_a_wheel_that_hangs_on_it_to_one_that_does_not(self):
        shares = {"mesh": (-2, 1), "pin": (1, 1), "band": (2, 1), "cross": (-2, 1)}
        for kind, share in shares.items():
            train = built([("a", 6), ("b", 4), ("c", 3)], [("mesh", "a", "b")])
            train.put_join(kind, "c", "a")
            with self.subTest(kind=kind):
                self.assertEqual(turns(train, "a"), [(1, 1), (-3, 2), share])

    def test_from_a_wheel_that_hangs_on_it_to_one_at_which_it_jams(self):
        for kind in KINDS:
            train = built([("a", 6), ("b", 4), ("c", 3)], [("mesh", "b", "c"), ("pin", "b", "c")])
            self.assertEqual(turns(train, "a"), [(1, 1), None, None])
            train.put_join(kind, "a", "c")
            with self.subTest(kind=kind):
                self.assertEqual(answers(train, "a"), (Jams, Jams))
                self.assertEqual(sorted(step[0] for step in ring(train, "a")), [0, 1])

    def test_between_two_wheels_that_do_not_hang_on_it(self):
        for kind in KINDS:
            train = built([("a", 6), ("b", 4), ("c", 3)], [("mesh", "b", "c")])
            train.put_join(kind, "c", "b")
            with self.subTest(kind=kind):
                self.assertEqual(answers(train, "a"), ([(1, 1), None, None], 1))

    def test_small_trains(self):
        met = {"as it was": 0, "jams": 0, "hung on": 0, "jammed there": 0, "aside": 0}
        for seed, train, name, names, reached in unjammed_cases():
            before = answers(train, name)
            for one in names:
                for other in names:
                    if one == other:
                        continue
                    for kind in KINDS:
                        jammed_there = ring(train, other) is not None
                        number = train.put_join(kind, one, other)
                        with self.subTest(seed=seed, name=name, kind=kind, one=one, other=other):
                            if one in reached and other in reached:
                                met[self.check_within(train, name, number, before)] += 1
                            elif one in reached:
                                met[self.check_outward(train, name, reached, before, jammed_there)] += 1
                            elif other not in reached:
                                self.assertEqual(answers(train, name), before)
                                met["aside"] += 1
                        train.take_join(number)
        for case, count in met.items():
            with self.subTest(case=case):
                self.assertGreater(count, 10)

    def check_within(self, train, name, number, before):
        rings = jamming_rings(train, name)
        if not rings:
            self.assertEqual(answers(train, name), before)
            return "as it was"
        self.assertEqual(answers(train, name), (Jams, Jams))
        for steps, product in rings:
            self.assertIn(number, [step[0] for step in steps])
        self.assertIn(number, [step[0] for step in ring(train, name)])
        return "jams"

    def check_outward(self, train, name, reached, before, jammed_there):
        if jammed_there:
            self.assertEqual(answers(train, name), (Jams, Jams))
            return "jammed there"
        told = turns(train, name)
        for wheel, share, earlier in zip(train.wheels(), told, before[0]):
            if wheel[0] in reached:
                self.assertEqual(share, earlier)
        return "hung on"


class JoinLess(unittest.TestCase):
    def test_leaves_each_wheel_that_still_hangs_on_it(self):
        wheels = [("a", 6), ("b", 4), ("c", 3), ("d", 9)]
        joins = [("mesh", "a", "b"), ("mesh", "b", "c"), ("band", "c", "a"), ("pin", "c", "d")]
        before = [(1, 1), (-3, 2), (2, 1), (2, 1)]
        self.assertEqual(turns(built(wheels, joins), "a"), before)
        for number in (0, 1, 2):
            train = built(wheels, joins)
            train.take_join(number)
            with self.subTest(number=number):
                self.assertEqual(turns(train, "a"), before)
        train = built(wheels, joins)
        train.take_join(3)
        self.assertEqual(turns(train, "a"), before[:3] + [None])

    def test_small_trains(self):
        stayed = 0
        fell = 0
        for seed in range(SMALL_TRAINS):
            whole = small_train(seed)
            for name, teeth in whole.wheels():
                if ring(whole, name) is not None:
                    continue
                before = shares_by_name(whole, name)
                for join in whole.joins():
                    train = small_train(seed)
                    train.take_join(join[0])
                    reached = hanging(train, name)
                    with self.subTest(seed=seed, name=name, join=join):
                        self.assertIsNone(ring(train, name))
                        for other, share in shares_by_name(train, name).items():
                            self.assertEqual(share, before[other] if other in reached else None)
                            stayed += other in reached
                            fell += other not in reached and before[other] is not None
        self.assertGreater(stayed, 100)
        self.assertGreater(fell, 100)


if __name__ == "__main__":
    unittest.main()
