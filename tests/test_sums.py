"""Point 21: sums of wishes and their degree."""

import random
import unittest
from unittest import mock

from allasked.counts import signed
from allasked.sums import degree, is_sum, sum_of
from tests.samples import ALL_FOUR, ALL_THREE, FRAMES, NO_TIES, ONE_PLACE, ONE_TIE, RING_OF_SEVEN, ROW_OF_EIGHT
from tests.samples import STAR_OF_EIGHT, all_webs, at_once, has_by_hand, kinds_of, nested, plain, simple_wishes, some_wish
from tests.samples import strange_things, truths_by_hand

A, B, C = ALL_THREE[1]
JOINED = ("joined",)
JOINED_SUM = [((A, B), 1), ((A, C), 1), ((B, C), 1), ((A, B, C), -2)]
ODD_SUM = [((A,), 1), ((B,), 1), ((A, B), -2), ((C,), 1), ((A, C), -2), ((B, C), -2), ((A, B, C), 4)]


def sum_by_hand(frame, wish):
    """Web by web: the number at a web is what is wanting within it."""
    numbers = {}
    for web in sorted(all_webs(frame), key=len):
        within = sum(number for other, number in numbers.items() if set(other) <= set(web))
        numbers[web] = int(has_by_hand(frame, wish, web)) - within
    return [(web, numbers[web]) for web in all_webs(frame) if numbers[web]]


class SumOf(unittest.TestCase):
    def told(self, frame, wish):
        """The sum and its degree, looked at."""
        told = sum_of(frame, wish)
        self.assertEqual(kinds_of(told), kinds_of(sum_by_hand(frame, wish)), (frame, wish))
        self.assertTrue(plain(told))
        self.assertIs(is_sum(frame, wish, told), True)
        right = max([0] + [len(web) for web, number in told])
        self.assertEqual(kinds_of(degree(frame, wish)), kinds_of(right), (frame, wish))
        return told

    def test_by_hand(self):
        self.assertEqual(sum_of(ALL_THREE, JOINED), JOINED_SUM)
        self.assertEqual(sum_of(ALL_THREE, ("odd",)), ODD_SUM)
        self.assertEqual(sum_of(ALL_THREE, ("ring",)), [((A, B, C), 1)])
        self.assertEqual(sum_of(ALL_THREE, ("tie", 0, 2)), [((B,), 1)])
        self.assertEqual(sum_of(ALL_THREE, ("not", ("tie", 0, 2))), [((), 1), ((B,), -1)])
        self.assertEqual(sum_of(ALL_THREE, ("either", ("tie", 0, 1), ("tie", 0, 2))), [((A,), 1), ((B,), 1), ((A, B), -1)])
        for wish, right in [(JOINED, 3), (("odd",), 3), (("tie", 0, 1), 1), (("both", ("tie", 0, 1), ("tie", 0, 2)), 2)]:
            self.assertEqual(degree(ALL_THREE, wish), right)

    def test_had_by_all_webs_and_by_none(self):
        for frame in FRAMES:
            for wish in [("many", 0), ("not", ("many", 99)), ("told", (True,) * 2 ** len(frame[1]))]:
                self.assertEqual(kinds_of(self.told(frame, wish)), kinds_of([((), 1)]))
                self.assertEqual(degree(frame, wish), 0)
            for wish in [("many", 99), ("one", ("ring",), ("ring",))]:
                self.assertEqual(self.told(frame, wish), [])
                self.assertEqual(degree(frame, wish), 0)

    def test_without_ties(self):
        for frame in (ONE_PLACE, NO_TIES, (8, ())):
            for wish in simple_wishes(frame, random.Random(21)):
                right = [((), 1)] if has_by_hand(frame, wish, ()) else []
                self.assertEqual(kinds_of(self.told(frame, wish)), kinds_of(right))

    def test_each_kind(self):
        chance = random.Random(210)
        for frame in [frame for frame in FRAMES if len(frame[1]) <= 5]:
            for wish in simple_wishes(frame, chance) + [some_wish(frame, chance, 3) for _ in range(10)]:
                self.told(frame, wish)

    def test_six_and_seven_ties(self):
        chance = random.Random(211)
        for frame in [frame for frame in FRAMES if len(frame[1]) >= 6]:
            for wish in chance.sample(simple_wishes(frame, chance), 3) + [("odd",), some_wish(frame, chance, 2)]:
                self.told(frame, wish)

    def test_all_truths_of_two_ties(self):
        frame = (3, ((0, 1), (1, 2)))
        for number in range(16):
            self.told(frame, ("told", tuple(bool(number >> k & 1) for k in range(4))))

    def test_within_each_web(self):
        chance = random.Random(212)
        for frame in FRAMES:
            wish = some_wish(frame, chance, 2)
            told = sum_of(frame, wish)
            self.assertNotIn(0, [number for web, number in told])
            for web in all_webs(frame):
                within = sum(number for other, number in told if set(other) <= set(web))
                self.assertEqual(within, 1 if has_by_hand(frame, wish, web) else 0)

    def test_the_signed_count(self):
        chance = random.Random(213)
        for frame in FRAMES:
            for wish in [("odd",), JOINED, ("sides",)] + [some_wish(frame, chance, 2) for _ in range(3)]:
                at_all = dict(sum_of(frame, wish)).get(frame[1], 0)
                self.assertEqual(at_all, (-1) ** len(frame[1]) * signed(frame, wish))

    def test_seven_ties_in_good_time(self):
        wish = nested(("ring",), lambda inner: ("one", inner, ("sides",)), 11)
        with at_once(10):
            for frame in (RING_OF_SEVEN, ROW_OF_EIGHT, STAR_OF_EIGHT):
                told = sum_of(frame, ("odd",))
                self.assertEqual(len(told), 127)
                self.assertEqual(told[-1], (frame[1], 64))
                self.assertEqual(degree(frame, ("odd",)), 7)
                for _ in range(4):
                    self.assertIs(is_sum(frame, wish, sum_of(frame, wish)), True)
                    degree(frame, wish)

    def test_the_table_is_reckoned_once(self):
        for call in (sum_of, degree, lambda frame, wish: is_sum(frame, wish, JOINED_SUM)):
            with mock.patch("allasked.sums.table_of", side_effect=truths_by_hand) as table:
                call(ALL_THREE, JOINED)
            self.assertEqual(table.call_count, 1)

    def test_the_list_is_the_askers_own(self):
        kept = sum_of(ALL_THREE, JOINED)
        told = sum_of(ALL_THREE, JOINED)
        told.clear()
        self.assertEqual(kept, JOINED_SUM)
        told = sum_of(ALL_THREE, JOINED)
        told.append(None)
        self.assertEqual(sum_of(ALL_THREE, JOINED), JOINED_SUM)
        self.assertEqual(degree(ALL_THREE, JOINED), 3)


class IsSum(unittest.TestCase):
    def no(self, *things, frame=ALL_THREE, wish=JOINED):
        for thing in things:
            self.assertIs(is_sum(frame, wish, thing), False)

    def test_the_sum(self):
        self.assertIs(is_sum(ALL_THREE, JOINED, JOINED_SUM), True)
        self.assertIs(is_sum(ALL_THREE, ("many", 2), list(JOINED_SUM)), True)
        self.assertIs(is_sum(ALL_THREE, ("odd",), ODD_SUM), True)
        self.assertIs(is_sum(ALL_THREE, ("many", 99), []), True)
        self.assertIs(is_sum(ALL_THREE, ("many", 0), [((), 1)]), True)
        self.assertIs(is_sum(ONE_PLACE, JOINED, [((), 1)]), True)
        self.assertIs(is_sum(NO_TIES, JOINED, []), True)
        self.no(ODD_SUM, [], [((), 1)])
        self.no(JOINED_SUM, [((), 0)], [((), 1)], wish=("many", 99))

    def test_a_number_changed(self):
        for at, (web, number) in enumerate(JOINED_SUM):
            for wrong in [0, -number, number + 1, number - 1, True, False, None, str(number), (number,), [number], 10 ** 29]:
                self.no(JOINED_SUM[:at] + [(web, wrong)] + JOINED_SUM[at + 1:])
        self.no([((), True)], [((), 2)], [((), "1")], [((), 0)], wish=("many", 0))
        self.no([((), False)], [((), 0)], wish=("many", 99))

    def test_rows_more_out_twice_exchanged(self):
        for at, row in enumerate(JOINED_SUM):
            self.no(JOINED_SUM[:at] + JOINED_SUM[at + 1:], JOINED_SUM[:at] + [row] + JOINED_SUM[at:], JOINED_SUM + [row])
            for other in [((), 0), ((), 1), ((A,), 1), ((A,), 0), ((C,), 0), ((A, B, C), 0), None, ()]:
                self.no(JOINED_SUM[:at] + [other] + JOINED_SUM[at:], JOINED_SUM + [other])
            for to in range(at):
                rows = list(JOINED_SUM)
                rows[at], rows[to] = rows[to], rows[at]
                self.no(rows)
        self.no(JOINED_SUM[::-1], JOINED_SUM * 2, [JOINED_SUM])

    def test_lists_in_the_place_of_tuples(self):
        self.no(tuple(JOINED_SUM))
        for at, (web, number) in enumerate(JOINED_SUM):
            for wrong in [[web, number], (list(web), number), (tuple(list(tie) for tie in web), number), (web, [number]),
                          (web, number, number), (web,), (number, web), (web, number, None), {web: number}]:
                self.no(JOINED_SUM[:at] + [wrong] + JOINED_SUM[at + 1:])
        self.no((), wish=("many", 99))
        self.no({}, None, "", 0, False, wish=("many", 99))
        self.no((((), 1),), [[(), 1]], [([], 1)], {(): 1}, wish=("many", 0))

    def test_webs_that_are_none(self):
        for at, (web, number) in enumerate(JOINED_SUM):
            for wrong in [web[::-1], web + web[-1:], tuple(tie[::-1] for tie in web), web[:-1] + ((0, 3),), web[:-1] + (None,), None,
                          "0-1", 3, True, web[:-1] + (tuple(place == 1 if place < 2 else 2 for place in web[-1]),),
                          ((False, 1),) + web[1:], ((0, True),) + web[1:]]:
                self.no(JOINED_SUM[:at] + [(wrong, number)] + JOINED_SUM[at + 1:])

    def test_strange_things(self):
        for at, thing in enumerate(strange_things()):
            with self.subTest(at=at), at_once():
                for frame in (ALL_THREE, ONE_PLACE, RING_OF_SEVEN):
                    self.no(thing, [thing], [(thing, 1)], [((), thing)], [((thing,), 1)], [((), 1, thing)], [((), 1), thing],
                            [((), 1), (thing, 1)], [[(), thing]], {0: thing}, frame=frame, wish=("many", 0))
                    told = is_sum(frame, ("many", 99), thing)
                    self.assertIs(told, type(thing) is list and len(thing) == 0)

    def test_long_lists(self):
        with at_once(10):
            self.no([((A,), 1)] * 300, [((), 1)] * 300, [(tuple([A] * 300), 1)], [((), 10 ** 29)] * 300)
            frame = ALL_FOUR
            for wish in (("odd",), JOINED):
                right = sum_of(frame, wish)
                self.assertIs(is_sum(frame, wish, right), True)
                self.assertIs(is_sum(frame, wish, right[:-1]), False)
                self.assertIs(is_sum(ONE_TIE, ("odd",), right), False)

    def test_what_is_handed_in_stays(self):
        right = list(JOINED_SUM)
        strange = [[(), [1]], ((), {}), [None]]
        for _ in range(2):
            self.assertIs(is_sum(ALL_THREE, JOINED, right), True)
            self.assertIs(is_sum(ALL_THREE, JOINED, strange), False)
        self.assertEqual(right, JOINED_SUM)
        self.assertEqual(strange, [[(), [1]], ((), {}), [None]])
        right.pop()
        self.assertIs(is_sum(ALL_THREE, JOINED, right), False)
        self.assertEqual(sum_of(ALL_THREE, JOINED), JOINED_SUM)


if __name__ == "__main__":
    unittest.main()
