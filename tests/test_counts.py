"""Point 20: counts."""

import itertools
import math
import random
import unittest
from unittest import mock

from allasked.counts import counts, divided, signed, spared
from tests.samples import ALL_FOUR, ALL_THREE, FRAMES, NO_TIES, ONE_PLACE, ONE_TIE, RING_OF_SEVEN, ROW_OF_EIGHT
from tests.samples import all_webs, at_once, has_by_hand, kinds_of, least_of_truths, nested, plain, simple_wishes
from tests.samples import some_wish, truths_by_hand

HEAVY = nested(("ring",), lambda inner: ("one", inner, ("sides",)), 11)


def counts_by_hand(frame, wish):
    having = [web for web in all_webs(frame) if has_by_hand(frame, wish, web)]
    return [len([web for web in having if len(web) == k]) for k in range(len(frame[1]) + 1)]


def times_one_more(numbers):
    """The list that is divided to this one: each number together with the one ahead of it."""
    return [a + b for a, b in zip(numbers + [0], [0] + numbers)]


def divided_by_hand(numbers):
    """By the numbers ahead with changing signs, not one behind the other."""
    made = []
    for at in range(len(numbers)):
        made.append(sum(number * (-1) ** (at - k) for k, number in enumerate(numbers[:at + 1])))
    return made[:-1] if made and made[-1] == 0 else None


class Counts(unittest.TestCase):
    def test_by_hand(self):
        self.assertEqual(counts(ALL_THREE, ("joined",)), [0, 0, 3, 1])
        self.assertEqual(counts(ALL_THREE, ("tie", 0, 1)), [0, 1, 2, 1])
        self.assertEqual(counts(ALL_THREE, ("odd",)), [0, 3, 0, 1])
        self.assertEqual(counts(ALL_FOUR, ("joined",)), [0, 0, 0, 16, 15, 6, 1])
        self.assertEqual(counts(ALL_FOUR, ("three",)), [0, 0, 0, 4, 12, 6, 1])
        self.assertEqual(counts(RING_OF_SEVEN, ("ring",)), [0, 0, 0, 0, 0, 0, 0, 1])
        self.assertEqual(counts(ONE_TIE, ("lone",)), [1, 0])

    def test_had_by_all_and_by_none(self):
        for frame in FRAMES:
            ties = len(frame[1])
            self.assertEqual(counts(frame, ("many", 0)), [math.comb(ties, k) for k in range(ties + 1)])
            self.assertEqual(counts(frame, ("many", 99)), [0] * (ties + 1))

    def test_without_ties(self):
        self.assertEqual(counts(ONE_PLACE, ("joined",)), [1])
        self.assertEqual(counts(ONE_PLACE, ("ring",)), [0])
        self.assertEqual(counts(NO_TIES, ("lone",)), [1])
        self.assertEqual(counts(NO_TIES, ("joined",)), [0])

    def test_each_kind(self):
        chance = random.Random(20)
        for frame in FRAMES:
            for wish in simple_wishes(frame, chance)[:20] + [some_wish(frame, chance, 3) for _ in range(4)]:
                told = counts(frame, wish)
                self.assertEqual(told, counts_by_hand(frame, wish), (frame, wish))
                self.assertIs(type(told), list)
                self.assertTrue(all(type(number) is int for number in told))

    def test_the_list_is_the_askers_own(self):
        kept = counts(ALL_THREE, ("joined",))
        told = counts(ALL_THREE, ("joined",))
        told[0] = 99
        told.append(7)
        self.assertEqual(kept, [0, 0, 3, 1])
        self.assertEqual(counts(ALL_THREE, ("joined",)), [0, 0, 3, 1])
        self.assertEqual(signed(ALL_THREE, ("joined",)), 2)


class Signed(unittest.TestCase):
    def told(self, frame, wish, right):
        self.assertEqual(signed(frame, wish), right, (frame, wish))
        self.assertIs(type(signed(frame, wish)), int)

    def test_by_hand(self):
        self.told(ALL_THREE, ("joined",), 2)
        self.told(ALL_THREE, ("tie", 0, 1), 0)
        self.told(ALL_THREE, ("odd",), -4)
        self.told(ALL_FOUR, ("joined",), -6)
        self.told(RING_OF_SEVEN, ("ring",), -1)
        self.told(ONE_TIE, ("lone",), 1)
        self.told(ONE_TIE, ("tie", 0, 1), -1)

    def test_had_by_all_and_by_none(self):
        for frame in FRAMES:
            self.told(frame, ("many", 0), 0 if frame[1] else 1)
            self.told(frame, ("many", 99), 0)

    def test_without_ties(self):
        self.told(ONE_PLACE, ("joined",), 1)
        self.told(ONE_PLACE, ("ring",), 0)

    def test_each_kind(self):
        chance = random.Random(200)
        for frame in FRAMES:
            for wish in chance.sample(simple_wishes(frame, chance), 8) + [some_wish(frame, chance, 3) for _ in range(4)]:
                signs = [(-1) ** len(web) for web in all_webs(frame) if has_by_hand(frame, wish, web)]
                self.told(frame, wish, sum(signs))


class Divided(unittest.TestCase):
    def test_by_hand(self):
        self.assertIsNone(divided([]))
        self.assertEqual(divided([0]), [])
        self.assertIsNone(divided([5]))
        self.assertIsNone(divided([-1]))
        self.assertEqual(divided([5, 5]), [5])
        self.assertIsNone(divided([5, 6]))
        self.assertEqual(divided([1, 2, 1]), [1, 1])
        self.assertEqual(divided([1, 3, 3, 1]), [1, 2, 1])
        self.assertEqual(divided([0, 0]), [0])
        self.assertEqual(divided([0, 0, 0]), [0, 0])
        self.assertEqual(divided([0, 1, 2, 1]), [0, 1, 1])
        self.assertEqual(divided([1, 0, -1]), [1, -1])
        self.assertEqual(divided([-3, 4, 7]), [-3, 7])
        self.assertIsNone(divided([0, 0, 3, 1]))
        self.assertIsNone(divided([1, -1]))

    def test_all_short_lists(self):
        for many in range(5):
            for numbers in itertools.product(range(-2, 3), repeat=many):
                told = divided(list(numbers))
                self.assertEqual(told, divided_by_hand(list(numbers)), numbers)
                if told is not None:
                    self.assertIs(type(told), list)
                    self.assertEqual(times_one_more(told), list(numbers))

    def test_once_and_often(self):
        chance = random.Random(201)
        for _ in range(40):
            lists = [[chance.randrange(-(10 ** 9), 10 ** 9) for _ in range(chance.randrange(1, 20))]]
            for _ in range(6):
                lists.append(times_one_more(lists[-1]))
            for ahead, behind in zip(lists, lists[1:]):
                self.assertEqual(divided(behind), ahead)
                self.assertIsNone(divided(behind[:-1] + [behind[-1] + 1]))

    def test_long_lists_and_great_numbers(self):
        great = 10 ** 30 - 1
        self.assertEqual(divided([great, great]), [great])
        self.assertEqual(divided([great] * 300), [great, 0] * 149 + [great])
        self.assertIsNone(divided([great] * 299))

    def test_what_is_handed_in_stays(self):
        for numbers in ([], [0], [5], [1, 2, 1], [1, 2, 3]):
            before = list(numbers)
            told = divided(numbers)
            self.assertEqual(numbers, before)
            if told is not None:
                right = list(told)
                told.append(9)
                told[0] = 7
                self.assertEqual(numbers, before)
                self.assertEqual(divided(numbers), right)
                kept = divided(numbers)
                numbers[0] = 4
                self.assertEqual(kept, right)


class Spared(unittest.TestCase):
    def told(self, frame, wish, right):
        self.assertEqual(spared(frame, wish), right, (frame, wish))
        self.assertIs(type(spared(frame, wish)), int)

    def test_all_counts_are_0(self):
        for frame in FRAMES:
            self.told(frame, ("many", 99), len(frame[1]))
            self.told(frame, ("one", ("ring",), ("ring",)), len(frame[1]))

    def test_had_by_all(self):
        for frame in FRAMES:
            self.told(frame, ("many", 0), len(frame[1]))

    def test_without_ties(self):
        self.told(ONE_PLACE, ("joined",), 0)
        self.told(ONE_PLACE, ("ring",), 0)
        self.told(NO_TIES, ("lone",), 0)
        self.told(NO_TIES, ("joined",), 0)

    def test_by_hand(self):
        self.told(ALL_THREE, ("joined",), 0)
        self.told(ALL_THREE, ("tie", 0, 1), 2)
        self.told(ALL_THREE, ("both", ("tie", 0, 1), ("tie", 0, 2)), 1)
        self.told(ALL_FOUR, ("tie", 0, 3), 5)
        self.told(ALL_FOUR, ("joined",), 0)
        self.told(ONE_TIE, ("odd",), 0)
        self.told(ROW_OF_EIGHT, ("both", ("tie", 0, 1), ("odd",)), 0)
        self.told(ROW_OF_EIGHT, ("ends", 1, 2), 5)

    def test_each_kind(self):
        chance = random.Random(202)
        for frame in FRAMES:
            for wish in chance.sample(simple_wishes(frame, chance), 10) + [some_wish(frame, chance, 3) for _ in range(5)]:
                numbers = counts_by_hand(frame, wish)
                times = -1
                while numbers is not None and times < len(frame[1]):
                    numbers = divided_by_hand(numbers)
                    times += 1
                self.told(frame, wish, times)
                self.assertGreaterEqual(least_of_truths(truths_by_hand(frame, wish)), len(frame[1]) - times)


class GoodTime(unittest.TestCase):
    def test_seven_ties(self):
        with at_once(5):
            for asked in (counts, signed, spared):
                self.assertTrue(plain(asked(RING_OF_SEVEN, HEAVY)))

    def test_the_table_is_reckoned_once(self):
        for asked in (counts, signed, spared):
            with mock.patch("allasked.counts.table_of", side_effect=truths_by_hand) as table:
                asked(RING_OF_SEVEN, ("joined",))
            self.assertEqual(table.call_count, 1)

    def test_a_wish_handed_in_stays(self):
        wish = ("told", (True, False) * 4)
        for asked in (counts, signed, spared):
            asked(ALL_THREE, wish)
            self.assertEqual(kinds_of(wish), kinds_of(("told", (True, False) * 4)))


if __name__ == "__main__":
    unittest.main()
