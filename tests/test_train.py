import unittest

from cogtrain.errors import Full, NoJoin, NoName, NoTeeth, NoWheel, Twice
from cogtrain.train import Train
from walks import KINDS, built, names_of_count, refusal, state

GOOD_NAMES = ("a", "z", "m", "ab", "wheel", "abcdefgh", "zzzzzzzz", "aaaaaaaa", "mesh", "pin", "band", "cross")
OTHER_SIGNS = ("A", "Z", "M", "0", "9", " ", "_", "-", ".", ";", "`", "{", "\n", "\t", "\0", "~", "@", "[")
BAD_TEETH = (0, -1, -2, -10 ** 9, -10 ** 5000, 10 ** 9, 10 ** 9 + 1, 10 ** 10, 10 ** 5000)
BAD_KINDS = ("", "a", "Mesh", "MESH", "mesh ", " mesh", "meshes", "mes", "pins", "belt", "bands", "crossed", "pin\n", "0")


def bad_names():
    names = ["", "abcdefghi", "a" * 9, "a" * 10, "a" * 100_000]
    for length in (1, 2, 5, 8):
        for place in range(length):
            for sign in OTHER_SIGNS:
                names.append("a" * place + sign + "a" * (length - place - 1))
    return names


def full_of_wheels():
    return built([(name, 7) for name in names_of_count(100)])


def full_of_joins():
    return built([("a", 2), ("b", 3), ("c", 4)], [("mesh", "a", "b")] * 200)


class TrainCase(unittest.TestCase):
    def assert_refused(self, train, wanted, call, *arguments):
        before = state(train)
        self.assertIs(refusal(call, *arguments), wanted)
        self.assertEqual(state(train), before)


class Wheels(TrainCase):
    def test_a_new_train_has_none(self):
        train = Train()
        self.assertEqual(train.wheels(), [])
        self.assertEqual(train.joins(), [])

    def test_stand_in_the_order_in_which_they_were_put_in(self):
        train = Train()
        self.assertIsNone(train.put_wheel("z", 30))
        self.assertIsNone(train.put_wheel("a", 10))
        self.assertIsNone(train.put_wheel("m", 20))
        self.assertEqual(train.wheels(), [("z", 30), ("a", 10), ("m", 20)])

    def test_arguments_by_their_names(self):
        train = Train()
        train.put_wheel(teeth=5, name="a")
        train.put_wheel(name="b", teeth=6)
        number = train.put_join(other="b", one="a", kind="pin")
        self.assertEqual(state(train), ([("a", 5), ("b", 6)], [(0, "pin", "a", "b")]))
        train.take_join(number=number)
        self.assertEqual(train.joins(), [])

    def test_names_within_the_bound(self):
        train = Train()
        for name in GOOD_NAMES:
            train.put_wheel(name, 5)
        self.assertEqual(train.wheels(), [(name, 5) for name in GOOD_NAMES])

    def test_each_letter_is_a_name(self):
        letters = [chr(code) for code in range(ord("a"), ord("z") + 1)]
        self.assertEqual(built([(letter, 1) for letter in letters]).wheels(), [(letter, 1) for letter in letters])

    def test_names_that_are_none(self):
        train = built([("a", 5)])
        for name in bad_names():
            with self.subTest(name=name[:20]):
                self.assert_refused(train, NoName, train.put_wheel, name, 5)

    def test_every_other_ascii_sign_is_in_no_name(self):
        train = Train()
        for code in range(128):
            if not ord("a") <= code <= ord("z"):
                with self.subTest(code=code):
                    self.assert_refused(train, NoName, train.put_wheel, chr(code), 5)

    def test_a_name_twice(self):
        train = built([("a", 5), ("bb", 6)])
        for name in ("a", "bb"):
            for teeth in (5, 6, 7):
                with self.subTest(name=name, teeth=teeth):
                    self.assert_refused(train, Twice, train.put_wheel, name, teeth)

    def test_teeth_within_the_bound(self):
        wheels = [("a", 1), ("b", 2), ("c", 10 ** 9 - 2), ("d", 10 ** 9 - 1), ("e", 1)]
        self.assertEqual(built(wheels).wheels(), wheels)

    def test_teeth_out_of_the_bound(self):
        train = built([("a", 5)])
        for place, teeth in enumerate(BAD_TEETH):
            with self.subTest(place=place):
                self.assert_refused(train, NoTeeth, train.put_wheel, "b", teeth)

    def test_a_hundred_and_one_more(self):
        names = names_of_count(100)
        train = Train()
        for name in names:
            train.put_wheel(name, 7)
        self.assertEqual(train.wheels(), [(name, 7) for name in names])
        self.assert_refused(train, Full, train.put_wheel, "a", 7)
        self.assert_refused(train, Full, train.put_wheel, "abcdefgh", 10 ** 9 - 1)

    def test_refused_ones_do_not_count_towards_the_hundred(self):
        train = built([(name, 7) for name in names_of_count(99)])
        for name, teeth in (("", 7), ("waa", 7), ("b", 0)):
            refusal(train.put_wheel, name, teeth)
        train.put_wheel("b", 7)
        self.assertEqual(len(train.wheels()), 100)

    def test_each_two_reasons_together(self):
        few = built([("waa", 7)])
        full = full_of_wheels()
        rows = (
            (few, "", 0, NoName),
            (few, "A", 10 ** 9, NoName),
            (full, "", 7, NoName),
            (full, "abcdefghi", 7, NoName),
            (few, "waa", 0, Twice),
            (few, "waa", 10 ** 9, Twice),
            (full, "waa", 7, Twice),
            (full, "a", 0, NoTeeth),
            (full, "a", -1, NoTeeth),
            (full, "a", 10 ** 9, NoTeeth),
        )
        for train, name, teeth, wanted in rows:
            with self.subTest(name=name, teeth=teeth, wheels=len(train.wheels())):
                self.assert_refused(train, wanted, train.put_wheel, name, teeth)

    def test_three_reasons_together(self):
        full = full_of_wheels()
        self.assert_refused(full, NoName, full.put_wheel, "A", 0)
        self.assert_refused(full, Twice, full.put_wheel, "waa", 0)


class Joins(TrainCase):
    def test_are_numbered_in_their_order(self):
        train = built([("a", 5), ("b", 6), ("c", 7)])
        self.assertEqual(train.put_join("mesh", "a", "b"), 0)
        self.assertEqual(train.put_join("pin", "c", "b"), 1)
        self.assertEqual(train.put_join("band", "c", "a"), 2)
        self.assertEqual(train.put_join("cross", "a", "c"), 3)
        self.assertEqual(
            train.joins(),
            [(0, "mesh", "a", "b"), (1, "pin", "c", "b"), (2, "band", "c", "a"), (3, "cross", "a", "c")],
        )

    def test_wheels_may_follow_joins(self):
        train = built([("b", 5), ("a", 6)], [("pin", "a", "b")])
        train.put_wheel("c", 7)
        self.assertEqual(train.put_join("mesh", "c", "b"), 1)
        self.assertEqual(train.wheels(), [("b", 5), ("a", 6), ("c", 7)])
        self.assertEqual(train.joins(), [(0, "pin", "a", "b"), (1, "mesh", "c", "b")])

    def test_several_between_the_same_two_wheels(self):
        train = built([("a", 5), ("b", 6)])
        wanted = []
        for kind in KINDS + KINDS:
            for one, other in (("a", "b"), ("b", "a")):
                number = train.put_join(kind, one, other)
                wanted.append((number, kind, one, other))
        self.assertEqual([join[0] for join in wanted], list(range(16)))
        self.assertEqual(train.joins(), wanted)

    def test_the_number_of_one_taken_out_is_not_given_again(self):
        train = built([("a", 5), ("b", 6)], [("mesh", "a", "b")] * 4)
        self.assertIsNone(train.take_join(1))
        self.assertEqual([join[0] for join in train.joins()], [0, 2, 3])
        self.assertEqual(train.put_join("pin", "a", "b"), 4)
        # The last one, too, and also where none is left.
        train.take_join(4)
        self.assertEqual(train.put_join("pin", "b", "a"), 5)
        for number in (5, 0, 3, 2):
            train.take_join(number)
        self.assertEqual(train.joins(), [])
        self.assertEqual(train.put_join("band", "b", "a"), 6)
        self.assertEqual(train.joins(), [(6, "band", "b", "a")])

    def test_taking_out_touches_no_wheel_and_no_other_join(self):
        train = built([("a", 5), ("b", 6), ("c", 7)], [("mesh", "a", "b"), ("pin", "b", "c"), ("mesh", "a", "b")])
        train.take_join(0)
        self.assertEqual(train.wheels(), [("a", 5), ("b", 6), ("c", 7)])
        self.assertEqual(train.joins(), [(1, "pin", "b", "c"), (2, "mesh", "a", "b")])

    def test_kinds_that_are_none(self):
        train = built([("a", 5), ("b", 6)], [("mesh", "a", "b")])
        for kind in BAD_KINDS:
            with self.subTest(kind=kind):
                self.assert_refused(train, NoJoin, train.put_join, kind, "a", "b")

    def test_names_that_no_wheel_has(self):
        train = built([("a", 5), ("b", 6)], [("mesh", "a", "b")])
        for kind in KINDS:
            for name in ("c", "", "A", "a ", "aa", "mesh", "abcdefghi", "5"):
                with self.subTest(kind=kind, name=name):
                    self.assert_refused(train, NoWheel, train.put_join, kind, name, "b")
                    self.assert_refused(train, NoWheel, train.put_join, kind, "a", name)
                    self.assert_refused(train, NoWheel, train.put_join, kind, name, name + "x")

    def test_a_wheel_and_itself(self):
        train = built([("a", 5), ("b", 6)], [("mesh", "a", "b")])
        for kind in KINDS:
            for name in ("a", "b"):
                with self.subTest(kind=kind, name=name):
                    self.assert_refused(train, NoJoin, train.put_join, kind, name, name)

    def test_two_hundred_and_one_more(self):
        train = built([("a", 2), ("b", 3)])
        for number in range(200):
            self.assertEqual(train.put_join("mesh", "a", "b"), number)
        for kind in KINDS:
            self.assert_refused(train, Full, train.put_join, kind, "b", "a")
        self.assertEqual([join[0] for join in train.joins()], list(range(200)))

    def test_one_more_behind_one_taken_out(self):
        train = full_of_joins()
        train.take_join(77)
        self.assertEqual(train.put_join("band", "b", "c"), 200)
        self.assertEqual(len(train.joins()), 200)
        self.assertEqual(train.joins()[-1], (200, "band", "b", "c"))
        self.assert_refused(train, Full, train.put_join, "band", "b", "c")
        train.take_join(200)
        train.take_join(0)
        self.assertEqual(train.put_join("pin", "b", "c"), 201)
        self.assertEqual(train.put_join("pin", "b", "c"), 202)
        self.assert_refused(train, Full, train.put_join, "pin", "b", "c")

    def test_each_two_reasons_together(self):
        few = built([("a", 2), ("b", 3)])
        full = full_of_joins()
        rows = (
            (few, "belt", "x", "b", NoJoin),
            (few, "belt", "a", "x", NoJoin),
            (few, "belt", "a", "a", NoJoin),
            (full, "belt", "a", "b", NoJoin),
            (few, "mesh", "x", "x", NoWheel),
            (few, "mesh", "x", "y", NoWheel),
            (full, "mesh", "x", "b", NoWheel),
            (full, "mesh", "a", "x", NoWheel),
            (full, "mesh", "a", "a", NoJoin),
        )
        for train, kind, one, other, wanted in rows:
            with self.subTest(kind=kind, one=one, other=other, joins=len(train.joins())):
                self.assert_refused(train, wanted, train.put_join, kind, one, other)

    def test_three_reasons_together(self):
        full = full_of_joins()
        self.assert_refused(full, NoWheel, full.put_join, "pin", "x", "x")
        self.assert_refused(full, NoJoin, full.put_join, "belt", "x", "y")
        self.assert_refused(full, NoJoin, full.put_join, "belt", "x", "x")
        self.assert_refused(full, NoJoin, full.put_join, "belt", "a", "a")

    def test_refused_ones_use_up_no_number(self):
        train = built([("a", 2), ("b", 3)], [("mesh", "a", "b")])
        for kind, one, other in (("belt", "a", "b"), ("pin", "x", "b"), ("pin", "a", "x"), ("pin", "a", "a")):
            refusal(train.put_join, kind, one, other)
        refusal(train.take_join, 7)
        self.assertEqual(train.put_join("pin", "a", "b"), 1)

    def test_one_refused_for_a_full_train_uses_up_no_number(self):
        train = full_of_joins()
        for turn in range(5):
            refusal(train.put_join, "mesh", "a", "b")
        train.take_join(3)
        self.assertEqual(train.put_join("mesh", "a", "b"), 200)

    def test_numbers_that_no_join_has(self):
        train = built([("a", 2), ("b", 3)], [("mesh", "a", "b"), ("pin", "a", "b"), ("band", "a", "b")])
        for place, number in enumerate((-1, -2, -3, 3, 4, 100, -10 ** 5000, 10 ** 5000)):
            with self.subTest(place=place):
                self.assert_refused(train, NoJoin, train.take_join, number)

    def test_a_number_taken_out_twice(self):
        train = built([("a", 2), ("b", 3)], [("mesh", "a", "b"), ("pin", "a", "b"), ("band", "a", "b")])
        train.take_join(1)
        self.assert_refused(train, NoJoin, train.take_join, 1)
        train.take_join(2)
        self.assert_refused(train, NoJoin, train.take_join, 2)

    def test_a_train_without_joins_has_none_to_take_out(self):
        for train in (Train(), built([("a", 2), ("b", 3)])):
            for number in (-1, 0, 1):
                self.assert_refused(train, NoJoin, train.take_join, number)

    def test_a_train_without_wheels_takes_no_join(self):
        train = Train()
        self.assert_refused(train, NoWheel, train.put_join, "mesh", "a", "b")
        self.assert_refused(train, NoWheel, train.put_join, "mesh", "a", "a")
        self.assert_refused(train, NoJoin, train.put_join, "belt", "a", "b")


class Told(unittest.TestCase):
    def test_kinds_of_what_is_told(self):
        train = built([("a", 2), ("b", 3)], [("mesh", "a", "b")])
        for told in state(train):
            self.assertIs(type(told), list)
            for member in told:
                self.assertIs(type(member), tuple)
        self.assertIs(type(train.put_join("pin", "a", "b")), int)

    def test_lists_told_stay_as_they_were(self):
        train = built([("a", 2), ("b", 3)], [("mesh", "a", "b"), ("pin", "a", "b")])
        wheels = train.wheels()
        joins = train.joins()
        train.put_wheel("c", 4)
        train.put_join("band", "b", "c")
        train.take_join(0)
        self.assertEqual(wheels, [("a", 2), ("b", 3)])
        self.assertEqual(joins, [(0, "mesh", "a", "b"), (1, "pin", "a", "b")])

    def test_changing_a_list_changes_nothing_of_the_train(self):
        train = built([("a", 2), ("b", 3)], [("mesh", "a", "b"), ("pin", "a", "b")])
        train.wheels().clear()
        train.wheels().append(("c", 4))
        train.joins().clear()
        train.joins().append((2, "pin", "b", "a"))
        train.joins().reverse()
        self.assertEqual(train.wheels(), [("a", 2), ("b", 3)])
        self.assertEqual(train.joins(), [(0, "mesh", "a", "b"), (1, "pin", "a", "b")])
        train.put_wheel("c", 5)
        self.assertEqual(train.put_join("pin", "b", "c"), 2)

    def test_two_trains_do_not_touch_one_another(self):
        first = built([("a", 2), ("b", 3)], [("mesh", "a", "b")])
        second = Train()
        self.assertEqual(state(second), ([], []))
        second.put_wheel("b", 7)
        second.put_wheel("a", 8)
        self.assertEqual(second.put_join("pin", "b", "a"), 0)
        self.assertEqual(second.put_join("pin", "b", "a"), 1)
        second.take_join(0)
        self.assertEqual(state(first), ([("a", 2), ("b", 3)], [(0, "mesh", "a", "b")]))
        self.assertEqual(state(second), ([("b", 7), ("a", 8)], [(1, "pin", "b", "a")]))
        self.assertEqual(first.put_join("band", "a", "b"), 1)


if __name__ == "__main__":
    unittest.main()
