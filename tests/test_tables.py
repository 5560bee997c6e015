"""Point 9: tables of wishes."""

import random
import unittest

from allasked.tables import first_unlike, table_of
from tests.samples import ALL_FOUR, ALL_THREE, FRAMES, NO_TIES, ONE_PLACE, ONE_TIE, RING_OF_SEVEN
from tests.samples import all_webs, at_once, has_by_hand, nested, simple_wishes, some_wish


class TableOf(unittest.TestCase):
    def test_by_hand(self):
        self.assertEqual(table_of(ALL_THREE, ("tie", 0, 2)), [False, False, True, True, False, False, True, True])
        self.assertEqual(table_of(ALL_THREE, ("joined",)), [False, False, False, True, False, True, True, True])
        self.assertEqual(table_of(ALL_THREE, ("lone",)), [True, True, True, False, True, False, False, False])
        self.assertEqual(table_of(ONE_TIE, ("odd",)), [False, True])

    def test_without_ties(self):
        self.assertEqual(table_of(ONE_PLACE, ("joined",)), [True])
        self.assertEqual(table_of(NO_TIES, ("joined",)), [False])
        self.assertEqual(table_of(NO_TIES, ("told", (True,))), [True])

    def test_told_is_its_own_table(self):
        chance = random.Random(9)
        for frame in FRAMES:
            table = tuple(chance.random() < 0.5 for _ in range(2 ** len(frame[1])))
            self.assertEqual(table_of(frame, ("told", table)), list(table))
            self.assertEqual(table_of(frame, ("missing", ("told", table))), list(table[::-1]))

    def test_each_kind(self):
        chance = random.Random(99)
        for frame in FRAMES:
            wishes = simple_wishes(frame, chance)[:24] + [some_wish(frame, chance, 2) for _ in range(4)]
            for wish in wishes:
                told = table_of(frame, wish)
                self.assertIs(type(told), list)
                self.assertTrue(all(type(truth) is bool for truth in told))
                self.assertEqual(told, [has_by_hand(frame, wish, web) for web in all_webs(frame)], (frame, wish))

    def test_seven_ties_and_many_parts(self):
        wish = nested(("sides",), lambda inner: ("either", inner, ("ring",)), 11)
        with at_once():
            told = table_of(RING_OF_SEVEN, wish)
        self.assertEqual(told, [True] * 128)

    def test_the_list_is_the_askers_own(self):
        wish = ("told", (True, False) * 4)
        for asked in (wish, ("joined",), ("not", wish)):
            kept = table_of(ALL_THREE, asked)
            first = list(kept)
            told = table_of(ALL_THREE, asked)
            told[0] = None
            told.append(True)
            self.assertEqual(kept, first)
            self.assertEqual(table_of(ALL_THREE, asked), first)
        self.assertEqual(wish, ("told", (True, False) * 4))


class FirstUnlike(unittest.TestCase):
    def test_alike(self):
        self.assertIsNone(first_unlike(ALL_THREE, ("joined",), ("many", 2)))
        self.assertIsNone(first_unlike(ALL_THREE, ("ring",), ("not", ("sides",))))
        self.assertIsNone(first_unlike(ALL_FOUR, ("tie", 0, 1), ("tie", 0, 1)))
        self.assertIsNone(first_unlike(ONE_PLACE, ("hub",), ("lone",)))
        self.assertIsNone(first_unlike(ALL_FOUR, ("one", ("ring",), ("ring",)), ("many", 7)))

    def test_by_hand(self):
        self.assertEqual(first_unlike(ALL_THREE, ("joined",), ("many", 3)), ((0, 1), (0, 2)))
        self.assertEqual(first_unlike(ALL_THREE, ("many", 3), ("joined",)), ((0, 1), (0, 2)))
        self.assertEqual(first_unlike(ALL_THREE, ("tie", 0, 2), ("tie", 1, 2)), ((0, 2),))
        self.assertEqual(first_unlike(ALL_FOUR, ("three",), ("ring",)), ((0, 2), (0, 3), (1, 2), (1, 3)))
        self.assertEqual(first_unlike(ALL_THREE, ("odd",), ("not", ("odd",))), ())
        self.assertEqual(first_unlike(ONE_PLACE, ("hub",), ("not", ("lone",))), ())
        self.assertEqual(first_unlike(RING_OF_SEVEN, ("ring",), ("many", 99)), RING_OF_SEVEN[1])

    def test_one_truth_unlike(self):
        for frame in (ONE_PLACE, ONE_TIE, ALL_THREE, RING_OF_SEVEN):
            found = all_webs(frame)
            for number, web in enumerate(found):
                table = [False] * len(found)
                table[number] = True
                self.assertEqual(first_unlike(frame, ("told", tuple(table)), ("many", 99)), web)

    def test_two_tables(self):
        chance = random.Random(999)
        for frame in FRAMES:
            found = all_webs(frame)
            for _ in range(6):
                one = [chance.random() < 0.5 for _ in found]
                other = [truth != (chance.random() < 2 / len(found)) for truth in one]
                unlike = [web for at, web in enumerate(found) if one[at] != other[at]]
                told = first_unlike(frame, ("told", tuple(one)), ("told", tuple(other)))
                self.assertEqual(told, unlike[0] if unlike else None)


if __name__ == "__main__":
    unittest.main()
