import unittest

from cogtrain.errors import NoText
from cogtrain.texts import read, shown
from cogtrain.train import Train
from walks import KINDS, SMALL_TRAINS, built, names_of_count, refusal, small_train, state

# Signs put in at every place of a good text; none of them makes another good text there.
STRAY_SIGNS = (" ", ";", "; ", "\n", "\t", "\r", ",", ".", ":", "+", "-", "_", "A", "\0", "\x0b", "\x0c")


def unnumbered(train):
    return [join[1:] for join in train.joins()]


class Read(unittest.TestCase):
    def assert_read(self, text, wheels, joins=()):
        train = read(text)
        self.assertIs(type(train), Train)
        self.assertEqual(train.wheels(), list(wheels))
        self.assertEqual(train.joins(), list(joins))

    def test_the_text_of_no_signs(self):
        self.assert_read("", [])

    def test_wheels(self):
        self.assert_read("a 5", [("a", 5)])
        self.assert_read("z 30; abcdefgh 10; m 20", [("z", 30), ("abcdefgh", 10), ("m", 20)])

    def test_teeth(self):
        for teeth in (1, 9, 10, 100, 90, 123456789, 10 ** 8, 999999998, 999999999):
            self.assert_read(f"a {teeth}", [("a", teeth)])

    def test_joins(self):
        for kind in KINDS:
            self.assert_read(f"a 5; b 6; a {kind} b", [("a", 5), ("b", 6)], [(0, kind, "a", "b")])
            self.assert_read(f"a 5; b 6; b {kind} a", [("a", 5), ("b", 6)], [(0, kind, "b", "a")])

    def test_joins_are_numbered_in_their_order(self):
        self.assert_read(
            "b 6; a 5; a mesh b; c 7; c pin a; b band c; a mesh b; d 1; d cross b",
            [("b", 6), ("a", 5), ("c", 7), ("d", 1)],
            [(0, "mesh", "a", "b"), (1, "pin", "c", "a"), (2, "band", "b", "c"), (3, "mesh", "a", "b")]
            + [(4, "cross", "d", "b")],
        )

    def test_wheels_named_like_a_kind(self):
        self.assert_read(
            "mesh 3; pin 4; band 5; cross 6; mesh mesh pin; pin band cross; cross pin mesh",
            [("mesh", 3), ("pin", 4), ("band", 5), ("cross", 6)],
            [(0, "mesh", "mesh", "pin"), (1, "band", "pin", "cross"), (2, "pin", "cross", "mesh")],
        )

    def test_behind_read_numbers_go_on(self):
        train = read("a 5; b 6; a mesh b; a pin b")
        self.assertEqual(train.put_join("band", "a", "b"), 2)
        train.put_wheel("c", 4)
        self.assertEqual(train.wheels(), [("a", 5), ("b", 6), ("c", 4)])

    def test_the_bounds(self):
        names = names_of_count(100)
        wheels = "; ".join(f"{name} 7" for name in names)
        joins = "; ".join(["waa mesh wab"] * 200)
        train = read(wheels + "; " + joins)
        self.assertEqual(train.wheels(), [(name, 7) for name in names])
        self.assertEqual(train.joins(), [(number, "mesh", "waa", "wab") for number in range(200)])

    def test_argument_by_its_name(self):
        self.assertEqual(read(text="a 5").wheels(), [("a", 5)])


class Refused(unittest.TestCase):
    def assert_no_text(self, text):
        with self.subTest(text=text[:60]):
            self.assertIs(refusal(read, text), NoText)

    def test_stray_signs_at_each_place(self):
        good = "ab 56; cd 78; ab mesh cd"
        self.assertIsNone(refusal(read, good))
        for place in range(len(good) + 1):
            for sign in STRAY_SIGNS:
                self.assert_no_text(good[:place] + sign + good[place:])

    def test_blanks_and_semicolons_missing_at_each_place(self):
        good = "ab 56; cd 78; ab mesh cd"
        for place, sign in enumerate(good):
            if sign in " ;":
                self.assert_no_text(good[:place] + good[place + 1:])

    def test_other_signs_at_the_place_of_a_blank(self):
        good = "ab 56; cd 78; ab mesh cd"
        for place, sign in enumerate(good):
            if sign in " ;":
                for other in ("\t", "\n", "_", ",", ".", ":", "\x0b", "\r"):
                    self.assert_no_text(good[:place] + other + good[place + 1:])

    def test_every_text_of_few_signs(self):
        # Of all texts of at most four of these signs, just those with one wheel tell a train, and the one of no signs.
        signs = ("a", "1", "0", " ", ";")
        texts = [""]
        for length in range(5):
            for text in texts:
                name, blank, teeth = text.partition(" ")
                good = text == "" or (
                    name in ("a", "aa", "aaa") and blank == " " and teeth in ("1", "10", "11") and len(text) <= 4
                )
                with self.subTest(text=text):
                    self.assertIs(refusal(read, text), None if good else NoText)
            texts = [text + sign for text in texts for sign in signs]

    def test_a_sign_at_the_begin_or_the_end(self):
        for good in ("a 5", "a 5; b 6", "a 5; b 6; a mesh b"):
            for sign in (" ", ";", "; ", " ;", "\n", "\t", "\r\n", "0 ", ".", "  "):
                self.assert_no_text(sign + good)
                self.assert_no_text(good + sign)

    def test_empty_parts(self):
        for text in (" ", "  ", ";", "; ", "; ; ", ";;", "\n", "; a 5", "a 5; ", "a 5; ; b 6", "a 5; ; ", "a 5;; b 6"):
            self.assert_no_text(text)

    def test_words_of_other_numbers(self):
        for part in ("a", "5", "mesh", "a mesh", "mesh b", "a b", "a 5 6", "a b 5", "a mesh b c", "a mesh b 5", "c 5 mesh b"):
            self.assert_no_text(part)
            self.assert_no_text("a 5; b 6; " + part)
        self.assert_no_text("c 7; a 5; b 6; a mesh b mesh c")
        self.assert_no_text("c 5 d 6")

    def test_teeth(self):
        for teeth in (
            "0", "00", "01", "007", "0999999999", "000000001", "1000000000", "9999999999", "1234567890", "1" * 5000,
            "+5", "-5", "+0", "-0", "5.", "5.0", "0.5", "5e1", "1e3", "0x5", "0b1", "1_0", "_1", "5_", "1,000", "five",
            "V", "", "5a", "a5", "5+", "--5", "'5'", "5;", "None", "True",
        ):
            self.assert_no_text("a " + teeth)
            self.assert_no_text("b 6; a " + teeth + "; c 7")

    def test_names(self):
        for name in ("", "A", "abcdefghi", "a1", "1a", "1", "a_b", "a-b", "a.", "Ab", "aB", "a;", "a\n", "\ta", "a" * 5000):
            self.assert_no_text(name + " 5")
            self.assert_no_text("b 6; " + name + " 5")
            self.assert_no_text("a 5; b 6; " + name + " mesh b")
            self.assert_no_text("a 5; b 6; a mesh " + name)

    def test_kinds(self):
        for kind in ("", "belt", "Mesh", "MESH", "meshes", "mes", "pins", "a", "b", "5", "mesh;", "-", "mesh\n"):
            self.assert_no_text(f"a 5; b 6; a {kind} b")

    def test_joins_of_wheels_that_come_later_or_never(self):
        for kind in KINDS:
            self.assert_no_text(f"a 5; a {kind} b; b 6")
            self.assert_no_text(f"a 5; b {kind} a; b 6")
            self.assert_no_text(f"a {kind} b; a 5; b 6")
            self.assert_no_text(f"a 5; a {kind} b")
            self.assert_no_text(f"a 5; b {kind} a")
            self.assert_no_text(f"a {kind} b")
            self.assert_no_text(f"a 5; b 6; c {kind} d")

    def test_a_wheel_joined_with_itself(self):
        for kind in KINDS:
            self.assert_no_text(f"a 5; b 6; a {kind} a")

    def test_a_name_twice(self):
        self.assert_no_text("a 5; a 5")
        self.assert_no_text("a 5; b 6; a 7")
        self.assert_no_text("a 5; b 6; a mesh b; b 6")

    def test_more_than_a_hundred_wheels(self):
        wheels = [f"{name} 7" for name in names_of_count(101)]
        self.assertEqual(len(read("; ".join(wheels[:100])).wheels()), 100)
        self.assert_no_text("; ".join(wheels))
        self.assert_no_text("; ".join(wheels[:100] + ["waa pin wab", "a 7"]))

    def test_more_than_two_hundred_joins(self):
        parts = ["a 5", "b 6"] + ["a mesh b"] * 201
        self.assertEqual(len(read("; ".join(parts[:-1])).joins()), 200)
        self.assert_no_text("; ".join(parts))

    def test_other_ways_of_writing(self):
        for text in ("a=5", "a:5", "a 5, b 6", "a 5\nb 6", "a 5;\nb 6", "(a 5)", "5 a", "mesh a b", "a b mesh", "[]", "None"):
            self.assert_no_text(text)
            self.assert_no_text("a 9; b 9; " + text)


class Shown(unittest.TestCase):
    def test_no_wheels(self):
        self.assertEqual(shown(Train()), "")

    def test_wheels_in_their_order(self):
        self.assertEqual(shown(built([("z", 1)])), "z 1")
        self.assertEqual(shown(built([("z", 30), ("a", 999999999), ("m", 20)])), "z 30; a 999999999; m 20")

    def test_wheels_first_then_joins(self):
        train = built([("b", 6), ("a", 5)], [("mesh", "a", "b"), ("pin", "b", "a")])
        train.put_wheel("c", 7)
        train.put_join("band", "c", "b")
        train.put_join("cross", "a", "c")
        self.assertEqual(shown(train), "b 6; a 5; c 7; a mesh b; b pin a; c band b; a cross c")
        self.assertEqual(shown(train=train), shown(train))

    def test_behind_a_join_taken_out(self):
        train = built([("a", 5), ("b", 6)], [("mesh", "a", "b"), ("pin", "b", "a"), ("band", "a", "b")])
        train.take_join(1)
        self.assertEqual(shown(train), "a 5; b 6; a mesh b; a band b")
        train.put_join("cross", "b", "a")
        self.assertEqual(shown(train), "a 5; b 6; a mesh b; a band b; b cross a")
        self.assertEqual([join[0] for join in train.joins()], [0, 2, 3])
        self.assertEqual([join[0] for join in read(shown(train)).joins()], [0, 1, 2])

    def test_read_in_another_order(self):
        self.assertEqual(shown(read("a 5; b 6; a mesh b; c 7; c pin b")), "a 5; b 6; c 7; a mesh b; c pin b")

    def test_read_again_has_the_same_wheels_and_joins(self):
        for seed in range(SMALL_TRAINS):
            train = small_train(seed)
            again = read(shown(train))
            with self.subTest(seed=seed):
                self.assertEqual(again.wheels(), train.wheels())
                self.assertEqual(unnumbered(again), unnumbered(train))
                self.assertEqual([join[0] for join in again.joins()], list(range(len(train.joins()))))
                self.assertEqual(shown(again), shown(train))

    def test_wheels_named_like_a_kind(self):
        train = built([(kind, 5) for kind in KINDS], [("mesh", "mesh", "pin"), ("pin", "cross", "band")])
        self.assertEqual(shown(train), "mesh 5; pin 5; band 5; cross 5; mesh mesh pin; cross pin band")
        self.assertEqual(state(read(shown(train))), state(train))

    def test_a_full_train(self):
        names = names_of_count(100)
        train = built([(name, 999999999) for name in names])
        for place in range(200):
            train.put_join(KINDS[place % 4], names[place % 100], names[(place + 1) % 100])
        self.assertEqual(state(read(shown(train))), state(train))


if __name__ == "__main__":
    unittest.main()
