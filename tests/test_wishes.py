"""Points 7 and 8: wishes, and which webs have them."""

import random
import unittest

from allasked.wishes import has, is_wish
from tests.samples import ALL_FOUR, ALL_THREE, FRAMES, NO_TIES, ONE_PLACE, ONE_TIE, RING_OF_SEVEN, ROW_OF_EIGHT
from tests.samples import SINGLES, STAR_OF_EIGHT, all_webs, at_once, doubled, has_by_hand, nested, simple_wishes
from tests.samples import some_wish, strange_things

SQUARE = ((0, 1), (0, 3), (1, 2), (2, 3))
STAR = ((0, 1), (0, 2), (0, 3))
INNER = {"not": 1, "missing": 1, "both": 2, "either": 2, "one": 2}


class Has(unittest.TestCase):
    def yes(self, frame, wish, *found):
        for web in found:
            self.assertIs(has(frame, wish, web), True, (frame, wish, web))

    def no(self, frame, wish, *found):
        for web in found:
            self.assertIs(has(frame, wish, web), False, (frame, wish, web))

    def test_tie(self):
        self.yes(ALL_FOUR, ("tie", 1, 2), ((1, 2),), SQUARE, ALL_FOUR[1])
        self.no(ALL_FOUR, ("tie", 1, 2), (), ((0, 1), (0, 2)), STAR)

    def test_many(self):
        self.yes(ALL_FOUR, ("many", 0), (), STAR, ALL_FOUR[1])
        self.yes(ALL_FOUR, ("many", 3), STAR, SQUARE, ALL_FOUR[1])
        self.no(ALL_FOUR, ("many", 3), (), ((0, 1), (0, 2)))
        self.yes(ALL_FOUR, ("many", 6), ALL_FOUR[1])
        self.no(ALL_FOUR, ("many", 6), ALL_FOUR[1][1:])
        self.no(ALL_FOUR, ("many", 7), *all_webs(ALL_FOUR))
        self.no(ALL_FOUR, ("many", 99), *all_webs(ALL_FOUR))
        self.yes(ONE_PLACE, ("many", 0), ())
        self.no(ONE_PLACE, ("many", 1), ())

    def test_odd(self):
        self.yes(ALL_FOUR, ("odd",), ((1, 2),), STAR, SQUARE + ((1, 3),))
        self.no(ALL_FOUR, ("odd",), (), SQUARE, ALL_FOUR[1])

    def test_joined(self):
        self.yes(ALL_FOUR, ("joined",), STAR, SQUARE, SQUARE[1:], ALL_FOUR[1])
        self.no(ALL_FOUR, ("joined",), (), ((0, 1), (2, 3)), ((0, 1), (0, 2), (1, 2)))

    def test_way(self):
        self.yes(ALL_FOUR, ("way", 1, 3), ((1, 3),), ((0, 1), (0, 3)), STAR, SQUARE, ((0, 1), (0, 2), (2, 3)))
        self.no(ALL_FOUR, ("way", 1, 3), (), ((0, 1), (2, 3)), ((0, 1), (0, 2), (1, 2)))
        self.yes(ROW_OF_EIGHT, ("way", 0, 7), ROW_OF_EIGHT[1])
        self.no(ROW_OF_EIGHT, ("way", 0, 7), ROW_OF_EIGHT[1][:3] + ROW_OF_EIGHT[1][4:])

    def test_ring(self):
        self.yes(ALL_FOUR, ("ring",), SQUARE, ((1, 2), (1, 3), (2, 3)), ALL_FOUR[1])
        self.no(ALL_FOUR, ("ring",), (), STAR, SQUARE[1:])
        self.yes(RING_OF_SEVEN, ("ring",), RING_OF_SEVEN[1])
        self.no(RING_OF_SEVEN, ("ring",), RING_OF_SEVEN[1][1:])

    def test_three(self):
        self.yes(ALL_FOUR, ("three",), ((1, 2), (1, 3), (2, 3)), ((0, 1), (0, 3), (1, 3), (2, 3)), ALL_FOUR[1])
        self.no(ALL_FOUR, ("three",), (), STAR, SQUARE)
        self.no(RING_OF_SEVEN, ("three",), *all_webs(RING_OF_SEVEN))

    def test_hub(self):
        self.yes(ALL_FOUR, ("hub",), STAR, ((0, 2), (1, 2), (2, 3)), ALL_FOUR[1])
        self.no(ALL_FOUR, ("hub",), (), SQUARE, ((0, 1), (0, 2), (1, 2)))
        self.yes(STAR_OF_EIGHT, ("hub",), STAR_OF_EIGHT[1])
        self.no(STAR_OF_EIGHT, ("hub",), STAR_OF_EIGHT[1][1:])

    def test_lone(self):
        self.yes(ALL_FOUR, ("lone",), (), ((0, 1), (0, 2), (1, 2)), ((2, 3),))
        self.no(ALL_FOUR, ("lone",), STAR, ((0, 1), (2, 3)), ALL_FOUR[1])

    def test_sides(self):
        self.yes(ALL_FOUR, ("sides",), (), STAR, SQUARE)
        self.no(ALL_FOUR, ("sides",), ((0, 1), (0, 2), (1, 2)), ALL_FOUR[1])
        self.no(RING_OF_SEVEN, ("sides",), RING_OF_SEVEN[1])
        self.yes(RING_OF_SEVEN, ("sides",), RING_OF_SEVEN[1][:-1])

    def test_ends(self):
        self.yes(ALL_FOUR, ("ends", 0, 3), STAR, ALL_FOUR[1])
        self.no(ALL_FOUR, ("ends", 0, 3), (), SQUARE, ((0, 3), (1, 3), (2, 3)))
        self.yes(ALL_FOUR, ("ends", 3, 1), STAR, SQUARE)
        self.yes(ALL_FOUR, ("ends", 2, 0), *all_webs(ALL_FOUR))
        self.no(ALL_FOUR, ("ends", 2, 4), *all_webs(ALL_FOUR))
        self.no(ALL_FOUR, ("ends", 2, 99), *all_webs(ALL_FOUR))

    def test_told(self):
        table = (True, False, False, True, False, True, False, False)
        self.yes(ALL_THREE, ("told", table), (), ((0, 1), (0, 2)), ((0, 1), (1, 2)))
        self.no(ALL_THREE, ("told", table), ((0, 1),), ((0, 2),), ((1, 2),), ((0, 2), (1, 2)), ALL_THREE[1])
        self.yes(ONE_PLACE, ("told", (True,)), ())
        self.no(ONE_PLACE, ("told", (False,)), ())

    def test_not(self):
        self.yes(ALL_FOUR, ("not", ("joined",)), (), ((0, 1), (2, 3)))
        self.no(ALL_FOUR, ("not", ("joined",)), STAR)
        self.yes(ALL_FOUR, ("not", ("not", ("joined",))), STAR)

    def test_missing(self):
        self.yes(ALL_FOUR, ("missing", ("joined",)), (), ((0, 1), (2, 3)), ((0, 1), (1, 2), (2, 3)))
        self.no(ALL_FOUR, ("missing", ("joined",)), STAR, ALL_FOUR[1])
        self.yes(ALL_THREE, ("missing", ("tie", 0, 1)), (), ((1, 2),))
        self.no(ALL_THREE, ("missing", ("tie", 0, 1)), ((0, 1),))
        self.yes(ALL_THREE, ("missing", ("missing", ("tie", 0, 1))), ((0, 1),))

    def test_both_either_one(self):
        a, b = ("tie", 0, 1), ("tie", 1, 2)
        none, left, right, two = (), ((0, 1),), ((1, 2),), ((0, 1), (1, 2))
        self.yes(ALL_THREE, ("both", a, b), two)
        self.no(ALL_THREE, ("both", a, b), none, left, right)
        self.yes(ALL_THREE, ("either", a, b), left, right, two)
        self.no(ALL_THREE, ("either", a, b), none)
        self.yes(ALL_THREE, ("one", a, b), left, right)
        self.no(ALL_THREE, ("one", a, b), none, two)
        self.no(ALL_THREE, ("one", a, a), none, left, right, two)

    def test_one_place(self):
        for word in ("joined", "hub", "lone", "sides"):
            self.yes(ONE_PLACE, (word,), ())
        for word in ("odd", "ring", "three"):
            self.no(ONE_PLACE, (word,), ())
        self.yes(ONE_PLACE, ("ends", 0, 0), ())
        self.no(ONE_PLACE, ("ends", 0, 1), ())
        self.yes(ONE_PLACE, ("missing", ("lone",)), ())
        self.no(ONE_PLACE, ("one", ("joined",), ("hub",)), ())

    def test_without_ties(self):
        for word in ("lone", "sides"):
            self.yes(NO_TIES, (word,), ())
        for word in ("joined", "hub", "odd", "ring", "three"):
            self.no(NO_TIES, (word,), ())
        self.no(NO_TIES, ("way", 0, 3), ())

    def test_two_places(self):
        self.yes(ONE_TIE, ("hub",), ((0, 1),))
        self.no(ONE_TIE, ("hub",), ())
        self.no(ONE_TIE, ("lone",), ((0, 1),))

    def test_each_web_and_each_kind(self):
        chance = random.Random(7)
        for frame in FRAMES:
            for wish in simple_wishes(frame, chance):
                for web in all_webs(frame):
                    told = has(frame, wish, web)
                    self.assertIs(told, has_by_hand(frame, wish, web), (frame, wish, web))

    def test_wishes_in_wishes(self):
        chance = random.Random(77)
        for frame in FRAMES:
            for _ in range(12):
                wish = some_wish(frame, chance, 3)
                for web in chance.sample(all_webs(frame), min(24, 2 ** len(frame[1]))):
                    told = has(frame, wish, web)
                    self.assertIs(told, has_by_hand(frame, wish, web), (frame, wish, web))

    def test_twenty_four_parts(self):
        wish = ("odd",)
        for _ in range(23):
            wish = ("not", wish)
        self.no(ALL_THREE, wish, ((0, 1),))
        self.yes(ALL_THREE, wish, ())

    def test_somewhat_beyond_the_limits(self):
        self.no(ALL_THREE, ("many", 100), *all_webs(ALL_THREE))
        self.no(ALL_THREE, ("ends", 0, 100), *all_webs(ALL_THREE))
        self.no(ALL_THREE, nested(("odd",), lambda wish: ("not", wish)), ())


class IsWish(unittest.TestCase):
    def yes(self, frame, *things):
        for thing in things:
            self.assertIs(is_wish(frame, thing), True, (frame, thing))

    def no(self, frame, *things):
        for thing in things:
            self.assertIs(is_wish(frame, thing), False, (frame, thing))

    def test_each_kind(self):
        chance = random.Random(8)
        for frame in FRAMES:
            for wish in simple_wishes(frame, chance):
                self.yes(frame, wish, ("not", wish), ("missing", wish), ("both", wish, ("odd",)))
                self.yes(frame, ("either", ("odd",), wish), ("one", wish, wish))
            for _ in range(12):
                self.yes(frame, some_wish(frame, chance, 3))

    def test_numbers(self):
        for k in range(100):
            self.yes(ALL_THREE, ("many", k), ("ends", 1, k))
        for k in [-1, 100, 101, 10 ** 29, -(10 ** 29), True, False, "1", None, (1,), [1], {}, (), ""]:
            self.no(ALL_THREE, ("many", k), ("ends", 1, k))

    def test_places(self):
        frame = (4, ((0, 1), (1, 2)))
        for a in range(-1, 6):
            for b in range(-1, 6):
                self.assertIs(is_wish(frame, ("tie", a, b)), (a, b) in ((0, 1), (1, 2)), (a, b))
                self.assertIs(is_wish(frame, ("way", a, b)), 0 <= a < b <= 3, (a, b))
            self.assertIs(is_wish(frame, ("ends", a, 1)), 0 <= a <= 3, a)
        self.no(ONE_PLACE, ("way", 0, 0), ("way", 0, 1), ("tie", 0, 0), ("tie", 0, 1), ("ends", 1, 0))
        self.yes(ONE_PLACE, ("ends", 0, 0))

    def test_truths_in_the_place_of_numbers(self):
        for word in ("tie", "way"):
            self.yes(ALL_THREE, (word, 0, 1))
            self.no(ALL_THREE, (word, False, 1), (word, 0, True), (word, False, True), (word, True, 2))
        self.no(ALL_THREE, ("ends", True, 1), ("ends", False, 1), ("ends", 0, True), ("ends", 0, False))

    def test_wrong_places(self):
        for word in ("tie", "way"):
            for a in ["0", None, (0,), [0], (), {}, -1, 10 ** 29]:
                self.no(ALL_THREE, (word, a, 1), (word, 0, a))
            self.no(ALL_THREE, (word, (0, 1)), (word, [0, 1]), (word, ((0, 1),)), (word, (0, 1), 1))

    def test_how_many_parts_in_a_tuple(self):
        for word in SINGLES:
            self.yes(ALL_THREE, (word,))
            self.no(ALL_THREE, (word, 0), (word, ("odd",)), (word, word), (word, 0, 1), (word, ()), (word, 0, 1, 2))
            self.no(ALL_THREE, (word, None), (word, ("odd",), ("odd",)), (word, (True,) * 8))
        for word in ("many", "told", "tie", "way", "ends", "not", "missing", "both", "either", "one"):
            self.no(ALL_THREE, (word,))
        self.no(ALL_THREE, ("many", 1, 1), ("many", 1, 2), ("many", 1, 0, 2), ("told", (True,) * 8, (True,) * 8))
        self.no(ALL_THREE, ("tie", 0), ("tie", 0, 1, 2), ("way", 0), ("way", 0, 1, 2), ("way", 0, 1, 1))
        self.no(ALL_THREE, ("ends", 0), ("ends", 0, 1, 2), ("ends", 1))
        for word, count in INNER.items():
            for times in range(5):
                thing = (word,) + (("odd",),) * times
                self.assertIs(is_wish(ALL_THREE, thing), times == count, thing)

    def test_the_empty_tuple(self):
        self.no(ALL_THREE, (), ("not", ()), ("both", (), ()), ((),))

    def test_tables(self):
        for frame in (ONE_PLACE, ONE_TIE, ALL_THREE, RING_OF_SEVEN):
            size = 2 ** len(frame[1])
            self.yes(frame, ("told", (True,) * size), ("told", (False,) * size))
            self.no(frame, ("told", (True,) * (size - 1)), ("told", (True,) * (size + 1)), ("told", ()))
            self.no(frame, ("told", (True,) * (2 * size)), ("told", [True] * size), ("told", True), ("told", None))
            self.no(frame, ("told", (1,) * size), ("told", (0,) * size), ("told", (None,) * size))
            for wrong in (0, 1, None, "True", "", (), (True,), [], {}):
                self.no(frame, ("told", (True,) * (size - 1) + (wrong,)), ("told", (wrong,) + (False,) * (size - 1)))
        self.no(ALL_THREE, ("told", "+-+-+-+-"), ("told", {k: True for k in range(8)}), ("told", 8))

    def test_lists_in_the_place_of_tuples(self):
        self.no(ALL_THREE, ["odd"], ["tie", 0, 1], ["many", 1], ("not", ["odd"]), ["not", ("odd",)])
        self.no(ALL_THREE, ("both", ("odd",), ["odd"]), ("both", ["odd"], ("odd",)), ["both", ("odd",), ("odd",)])

    def test_other_words(self):
        for word in ["Odd", "odd ", " odd", "", "even", "and", "or", "end", "ask", "tie 0-1", "known", "odd\n"]:
            self.no(ALL_THREE, (word,), (word, 1), (word, 0, 1), (word, ("odd",)), (word, ("odd",), ("odd",)))
        for word in [None, True, False, 0, 1, (), ("odd",), ["odd"], {}, {"odd": 1}, b"odd"]:
            self.no(ALL_THREE, (word,), (word, 1), (word, 0, 1), (word, ("odd",)), (word, ("odd",), ("odd",)))
        self.no(ALL_THREE, "odd", "not", "joined")

    def test_no_wish_within(self):
        for wrong in [None, 0, True, "odd", ["odd"], (), ("even",), ("many", -1), ("tie", 1, 0), ("told", ())]:
            self.no(ALL_THREE, ("not", wrong), ("missing", wrong), ("not", ("not", wrong)))
            for word in ("both", "either", "one"):
                self.no(ALL_THREE, (word, wrong, ("odd",)), (word, ("odd",), wrong), (word, wrong, wrong))
                self.no(ALL_THREE, (word, ("not", ("odd",)), ("not", wrong)))
                self.no(ALL_THREE, (word, ("not", wrong), ("not", ("odd",))))

    def test_strange_things_in_each_place(self):
        for frame in (ALL_THREE, ONE_PLACE, RING_OF_SEVEN):
            for at, thing in enumerate(strange_things()):
                with self.subTest(at=at), at_once():
                    # One truth is the table of a frame without ties.
                    if frame[1] or not isinstance(thing, bool):
                        self.assertIs(is_wish(frame, ("told", (thing,))), False)
                    for wrong in [thing, ("many", thing), ("told", thing), ("not", thing)]:
                        self.assertIs(is_wish(frame, wrong), False)
                        self.assertIs(is_wish(frame, ("told", wrong)), False)
                        self.assertIs(is_wish(frame, ("missing", wrong)), False)
                    if thing != "odd":
                        self.assertIs(is_wish(frame, (thing,)), False)
                    for word in ("tie", "way", "ends", "both", "either", "one"):
                        self.assertIs(is_wish(frame, (word, thing, 1)), False)
                        self.assertIs(is_wish(frame, (word, 0, thing)), False)
                        self.assertIs(is_wish(frame, (word, ("odd",), thing)), False)
                        self.assertIs(is_wish(frame, (word, thing, ("odd",))), False)
                    self.assertIs(is_wish(frame, (thing, ("odd",))), False)
                    self.assertIs(is_wish(frame, (thing, ("odd",), ("odd",))), False)


class Parts(unittest.TestCase):
    def test_one_in_another(self):
        for word in ("not", "missing"):
            for start in (("odd",), ("told", (True, False) * 4), ("tie", 0, 1)):
                for steps in range(31):
                    thing = nested(start, lambda wish: (word, wish), steps)
                    self.assertIs(is_wish(ALL_THREE, thing), steps + 1 <= 24, steps)

    def test_two_in_another(self):
        for word in ("both", "either", "one"):
            for steps in range(31):
                left = nested(("odd",), lambda wish: (word, wish, ("ring",)), steps)
                right = nested(("odd",), lambda wish: (word, ("ring",), wish), steps)
                for thing, parts in [(left, 2 * steps + 1), (("not", left), 2 * steps + 2),
                                     (right, 2 * steps + 1), (("missing", right), 2 * steps + 2)]:
                    self.assertIs(is_wish(ALL_THREE, thing), parts <= 24, (word, parts))

    def test_what_stands_twice_counts_twice(self):
        eleven = nested(("odd",), lambda wish: ("not", wish), 10)
        twelve = ("not", eleven)
        self.assertIs(is_wish(ALL_THREE, ("both", eleven, eleven)), True)
        self.assertIs(is_wish(ALL_THREE, ("both", twelve, eleven)), True)
        self.assertIs(is_wish(ALL_THREE, ("both", eleven, twelve)), True)
        self.assertIs(is_wish(ALL_THREE, ("both", twelve, twelve)), False)
        self.assertIs(is_wish(ALL_THREE, ("not", ("both", eleven, eleven))), True)
        self.assertIs(is_wish(ALL_THREE, ("not", ("both", eleven, twelve))), False)

    def test_twice_at_each_of_few_steps(self):
        for word in ("both", "either", "one"):
            for steps in range(8):
                thing = doubled(("odd",), steps, lambda wish: (word, wish, wish))
                self.assertIs(is_wish(ALL_THREE, thing), 2 ** (steps + 1) - 1 <= 24, (word, steps))

    def test_twice_at_each_of_thirty_steps(self):
        for start in [("odd",), ("told", (True,) * 8), None, (), [], "odd", ("even",)]:
            for word in ("both", "either", "one", "not", "even"):
                with at_once():
                    self.assertIs(is_wish(ALL_THREE, doubled(start, 30, lambda wish: (word, wish, wish))), False)
        with at_once():
            deep = doubled(("odd",))
            self.assertIs(is_wish(ALL_THREE, deep), False)
            self.assertIs(is_wish(ALL_THREE, ("not", deep)), False)
            self.assertIs(is_wish(ALL_THREE, ("tie", deep, deep)), False)
            self.assertIs(is_wish(ALL_THREE, ("told", deep)), False)
            self.assertIs(is_wish(ALL_THREE, ("told", (deep,) * 8)), False)
            self.assertIs(is_wish(ALL_THREE, (deep, deep)), False)
            self.assertIs(is_wish(ALL_THREE, ("many", deep)), False)


class WishesAreKept(unittest.TestCase):
    def test_lists_handed_in_stay(self):
        inner = ["odd"]
        table = [True] * 8
        thing = ("both", ("told", table), inner)
        self.assertIs(is_wish(ALL_THREE, thing), False)
        self.assertEqual(thing, ("both", ("told", [True] * 8), ["odd"]))
        self.assertEqual(inner, ["odd"])

    def test_the_same_at_each_asking(self):
        for _ in range(3):
            self.assertIs(is_wish(ALL_THREE, ("many", 1)), True)
            self.assertIs(is_wish(ALL_THREE, ("many", True)), False)
            self.assertIs(is_wish(ALL_THREE, ("way", 0, 1)), True)
            self.assertIs(is_wish(ALL_THREE, ("way", False, True)), False)
            self.assertIs(has(ALL_THREE, ("many", 1), ((0, 1),)), True)
            self.assertIs(has(ONE_TIE, ("many", 1), ()), False)
            self.assertIs(is_wish(ONE_TIE, ("told", (True, False))), True)
            self.assertIs(is_wish(ONE_TIE, ("told", (1, 0))), False)


if __name__ == "__main__":
    unittest.main()
