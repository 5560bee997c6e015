"""Point 23: reasons of webs."""

import itertools
import random
import unittest
from unittest import mock

from allasked.reasons import greatest_reasons, is_reason, reason
from tests.samples import ALL_FOUR, ALL_THREE, FRAMES, NO_TIES, ONE_PLACE, ONE_TIE, RING_OF_SEVEN, ROW_OF_EIGHT
from tests.samples import STAR_OF_EIGHT, all_webs, at_once, has_by_hand, kinds_of, nested, plain, simple_wishes, some_wish
from tests.samples import strange_things, truths_by_hand

A, B, C = ALL_THREE[1]
JOINED = ("joined",)


def is_reason_by_hand(frame, wish, web, ties):
    """Whether all webs alike at these ties have the wish alike."""
    truths = set()
    for other in all_webs(frame):
        if all((tie in web) is (tie in other) for tie in ties):
            truths.add(has_by_hand(frame, wish, other))
    return len(truths) == 1


def reason_by_hand(frame, wish, web):
    """The first of those with the fewest ties."""
    for count in range(len(frame[1]) + 1):
        found = [ties for ties in itertools.combinations(frame[1], count) if is_reason_by_hand(frame, wish, web, ties)]
        if found:
            return min(found)


def fewest(truths, number, count):
    """The fewest ties that keep the truth of the web of this number, by what is alike at them."""
    for ties in sorted(range(2 ** count), key=lambda ties: bin(ties).count("1")):
        if len({truth for other, truth in enumerate(truths) if other & ties == number & ties}) == 1:
            return bin(ties).count("1")


class IsReason(unittest.TestCase):
    def yes(self, web, *things, frame=ALL_THREE, wish=JOINED):
        for thing in things:
            self.assertIs(is_reason(frame, wish, web, thing), True, (web, thing))

    def no(self, web, *things, frame=ALL_THREE, wish=JOINED):
        for thing in things:
            self.assertIs(is_reason(frame, wish, web, thing), False)

    def test_by_hand(self):
        self.yes((A, B), (A, B), (A, B, C))
        self.no((A, B), (), (A,), (B,), (C,), (A, C), (B, C))
        self.yes((A, B, C), (A, B), (A, C), (B, C), (A, B, C))
        self.no((A, B, C), (), (A,), (B,), (C,))
        self.yes((A,), (B, C), (A, B, C))
        self.no((A,), (), (A,), (B,), (C,), (A, B), (A, C))
        self.yes((), (A, B), (A, C), (B, C), (A, B, C))
        self.no((), (), (A,), (B,), (C,))

    def test_the_tuple_without_ties(self):
        for frame in FRAMES:
            for web in all_webs(frame)[:4]:
                self.yes(web, (), frame=frame, wish=("many", 0))
                self.yes(web, (), frame=frame, wish=("many", 99))
                told = is_reason(frame, ("odd",), web, ())
                self.assertIs(told, len(frame[1]) == 0)

    def test_all_ties(self):
        chance = random.Random(23)
        for frame in FRAMES:
            for wish in [JOINED, ("odd",), some_wish(frame, chance, 2)]:
                for web in chance.sample(all_webs(frame), min(4, len(all_webs(frame)))):
                    self.yes(web, frame[1], frame=frame, wish=wish)

    def test_all_rising_tuples(self):
        chance = random.Random(230)
        for frame in (ONE_PLACE, ONE_TIE, ALL_THREE, (4, ((0, 1), (0, 2), (1, 2), (2, 3)))):
            for wish in [JOINED, ("ring",), ("lone",), some_wish(frame, chance, 2), some_wish(frame, chance, 3)]:
                for web in all_webs(frame):
                    for ties in all_webs(frame):
                        right = is_reason_by_hand(frame, wish, web, ties)
                        self.assertIs(is_reason(frame, wish, web, ties), right, (frame, wish, web, ties))

    def test_some_of_seven_ties(self):
        chance = random.Random(231)
        for frame in (RING_OF_SEVEN, ROW_OF_EIGHT, STAR_OF_EIGHT):
            for wish in [JOINED, ("hub",), ("sides",), ("ends", 0, 2)]:
                for _ in range(10):
                    web, ties = chance.choice(all_webs(frame)), chance.choice(all_webs(frame))
                    self.assertIs(is_reason(frame, wish, web, ties), is_reason_by_hand(frame, wish, web, ties))

    def test_things_that_are_none(self):
        self.no((A, B), [A, B], [A, B, C], [], (B, A), (A, A, B), (A, B, B), (A, B, A), ((1, 0), B), (A, (2, 0)), (A, B, (2, 1)),
                (A, B, (0, 3)), (A, B, (3, 4)), ((0, True), B), ((False, 1), B), (A, (False, 2)), (A, B, (True, 2)), (A, [0, 2]),
                ([0, 1], B), (A, B, None), (None, A, B), (A, B, C, C), (A, B, C, (2, 3)), ((A, B),), A, (0, 1), None, True, False,
                0, 2, "", "0-1", "0-1 0-2", {}, {A: True, B: True}, ("tie", 0, 1), (A, B, ()), ((), A, B), (True, True, None))
        frame = (3, (A, C))
        self.yes((A, C), (A, C), frame=frame)
        self.no((A, C), (A, B), (A, B, C), frame=frame)
        self.no((), [], None, False, 0, "", {}, [()], ((),), frame=ONE_PLACE)
        self.yes((), (), frame=ONE_PLACE)

    def test_strange_things(self):
        for at, thing in enumerate(strange_things()):
            with self.subTest(at=at), at_once():
                for frame in (ALL_THREE, ONE_PLACE, RING_OF_SEVEN):
                    self.no((), thing, (thing,), (A, thing), (thing, A), (A, (0, thing)), ((thing, 1),), (A, B, C, thing), [thing],
                            frame=frame, wish=("many", 0))

    def test_what_is_handed_in_stays(self):
        thing = [A, [B]]
        self.no((A, B), thing, (A, [0, 2]))
        self.assertEqual(thing, [A, [B]])


class Reason(unittest.TestCase):
    def told(self, frame, wish, web):
        told = reason(frame, wish, web)
        self.assertEqual(kinds_of(told), kinds_of(reason_by_hand(frame, wish, web)), (frame, wish, web))
        self.assertTrue(plain(told))
        self.assertIs(is_reason(frame, wish, web, told), True)

    def test_by_hand(self):
        for web, right in [((), (A, B)), ((A,), (B, C)), ((B,), (A, C)), ((C,), (A, B)), ((A, B), (A, B)), ((A, C), (A, C)),
                           ((B, C), (B, C)), ((A, B, C), (A, B))]:
            self.assertEqual(reason(ALL_THREE, JOINED, web), right)
        self.assertEqual(reason(ALL_THREE, ("tie", 0, 2), (A,)), (B,))
        self.assertEqual(reason(ALL_THREE, ("many", 1), (A, C)), (A,))
        self.assertEqual(reason(ALL_THREE, ("many", 1), (B, C)), (B,))
        self.assertEqual(reason(ALL_THREE, ("odd",), (B,)), (A, B, C))
        self.assertEqual(reason(ALL_THREE, ("many", 0), (B,)), ())
        # As tuples compare, though the web of the other has the lesser number.
        wish = ("either", ("both", ("tie", 0, 1), ("tie", 2, 3)), ("both", ("tie", 0, 2), ("tie", 0, 3)))
        self.assertEqual(reason(ALL_FOUR, wish, ALL_FOUR[1]), ((0, 1), (2, 3)))

    def test_all_webs(self):
        chance = random.Random(232)
        for frame in [frame for frame in FRAMES if len(frame[1]) <= 4]:
            for wish in chance.sample(simple_wishes(frame, chance), 6) + [some_wish(frame, chance, 2) for _ in range(3)]:
                for web in all_webs(frame):
                    self.told(frame, wish, web)

    def test_larger_frames(self):
        chance = random.Random(233)
        for frame in [frame for frame in FRAMES if len(frame[1]) >= 5]:
            for wish in [JOINED, chance.choice([("lone",), ("hub",), ("way", 0, 1), ("many", 2)])]:
                for web in [()] + chance.sample(all_webs(frame), 2):
                    self.told(frame, wish, web)


class GreatestReasons(unittest.TestCase):
    def told(self, frame, wish):
        truths = truths_by_hand(frame, wish)
        sizes = {True: [None], False: [None]}
        for number, truth in enumerate(truths):
            sizes[truth].append(fewest(truths, number, len(frame[1])))
        right = tuple(max(sizes[truth][1:], default=None) for truth in (True, False))
        told = greatest_reasons(frame, wish)
        self.assertEqual(kinds_of(told), kinds_of(right), (frame, wish))
        return told

    def test_by_hand(self):
        self.assertEqual(greatest_reasons(ALL_THREE, JOINED), (2, 2))
        self.assertEqual(greatest_reasons(ALL_THREE, ("many", 1)), (1, 3))
        self.assertEqual(greatest_reasons(ALL_THREE, ("ring",)), (3, 1))
        self.assertEqual(greatest_reasons(ALL_THREE, ("odd",)), (3, 3))
        self.assertEqual(greatest_reasons(ALL_THREE, ("tie", 0, 1)), (1, 1))
        self.assertEqual(greatest_reasons(ONE_TIE, ("tie", 0, 1)), (1, 1))

    def test_had_by_all_webs_and_by_none(self):
        for frame in FRAMES:
            self.assertEqual(kinds_of(greatest_reasons(frame, ("many", 0))), kinds_of((0, None)))
            self.assertEqual(kinds_of(greatest_reasons(frame, ("many", 99))), kinds_of((None, 0)))
        self.assertEqual(greatest_reasons(ONE_PLACE, JOINED), (0, None))
        self.assertEqual(greatest_reasons(NO_TIES, JOINED), (None, 0))

    def test_against_reasons_of_all_webs(self):
        chance = random.Random(234)
        for frame in [frame for frame in FRAMES if len(frame[1]) <= 5]:
            for wish in [JOINED, ("lone",)] + [some_wish(frame, chance, 2) for _ in range(3)]:
                sizes = {True: [], False: []}
                for web in all_webs(frame):
                    sizes[has_by_hand(frame, wish, web)].append(len(reason(frame, wish, web)))
                right = (max(sizes[True], default=None), max(sizes[False], default=None))
                self.assertEqual(greatest_reasons(frame, wish), right)

    def test_each_frame(self):
        chance = random.Random(235)
        for frame in FRAMES:
            wishes = simple_wishes(frame, chance)
            for wish in chance.sample(wishes, 2 if len(frame[1]) > 5 else 8):
                self.told(frame, wish)

    def test_seven_ties_in_good_time(self):
        wish = nested(("ring",), lambda inner: ("one", inner, ("sides",)), 11)
        with at_once(10):
            for frame in (RING_OF_SEVEN, ROW_OF_EIGHT, STAR_OF_EIGHT):
                self.assertEqual(greatest_reasons(frame, ("odd",)), (7, 7))
                greatest_reasons(frame, wish)
                for web in all_webs(frame)[::9]:
                    reason(frame, wish, web)
                    is_reason(frame, wish, web, frame[1][:4])
        self.assertEqual(greatest_reasons(ROW_OF_EIGHT, JOINED), (7, 1))
        self.assertEqual(greatest_reasons(RING_OF_SEVEN, JOINED), (6, 2))

    def test_the_table_is_reckoned_once(self):
        for call in (greatest_reasons, lambda frame, wish: reason(frame, wish, ())):
            with mock.patch("allasked.least.table_of", side_effect=truths_by_hand) as table:
                call(RING_OF_SEVEN, JOINED)
            self.assertEqual(table.call_count, 1)


if __name__ == "__main__":
    unittest.main()
