"""Points 24 and 25: ties and webs led to one another by turns; and what point 3 says of them."""

import random
import unittest
from unittest import mock

from allasked.errors import AskError, NoTurn
from allasked.kinds import all_by_turns, kinds, led
from allasked.least import least
from tests.samples import ALL_FOUR, ALL_THREE, FRAMES, NO_TIES, ONE_PLACE, ONE_TIE, RING_OF_SEVEN, STAR_OF_EIGHT
from tests.samples import all_webs, at_once, keeps_by_hand, kinds_of, nested, nothing, plain, simple_wishes, some_wish
from tests.samples import strange_things, truths_by_hand, turned_by_hand, turns_by_hand

A, B, C = ALL_THREE[1]
JOINED = ("joined",)
STAY = (0, 1, 2)
PATH = (3, ((0, 1), (1, 2)))
SQUARE = (4, ((0, 1), (0, 3), (1, 2), (2, 3)))
KITE = (4, ((0, 1), (0, 2), (1, 2), (2, 3)))
RING_OF_FIVE = (5, ((0, 1), (0, 4), (1, 2), (2, 3), (3, 4)))
RING_OF_SIX = (6, ((0, 1), (0, 5), (1, 2), (2, 3), (3, 4), (4, 5)))


def round_of(many):
    return tuple((place + 1) % many for place in range(many))


def parts_by_hand(things, goings):
    """Each thing named by the first one that it comes to share a part with, over and over."""
    names = {thing: at for at, thing in enumerate(things)}
    more = True
    while more:
        more = False
        for thing in things:
            for going in goings:
                low = min(names[thing], names[going(thing)])
                if names[thing] != low or names[going(thing)] != low:
                    names[thing] = names[going(thing)] = low
                    more = True
    return [[thing for thing in things if names[thing] == name] for name in sorted(set(names.values()))]


def led_by_hand(frame, orders):
    goings = [lambda tie, order=order: turned_by_hand(order, (tie,))[0] for order in orders]
    return parts_by_hand(list(frame[1]), goings)


def kinds_by_hand(frame, orders):
    goings = [lambda web, order=order: turned_by_hand(order, web) for order in orders]
    return parts_by_hand(all_webs(frame), goings)


def some_turns(frame, chance, count):
    found = turns_by_hand(frame)
    return [chance.choice(found) for _ in range(count)]


class Led(unittest.TestCase):
    def test_by_hand(self):
        self.assertEqual(led(ALL_THREE, []), [[A], [B], [C]])
        self.assertEqual(led(ALL_THREE, [STAY]), [[A], [B], [C]])
        self.assertEqual(led(ALL_THREE, [(0, 2, 1)]), [[A, B], [C]])
        self.assertEqual(led(ALL_THREE, [(2, 1, 0)]), [[A, C], [B]])
        self.assertEqual(led(ALL_THREE, [(1, 2, 0)]), [[A, B, C]])
        self.assertEqual(led(ALL_THREE, [(0, 2, 1), (2, 1, 0)]), [[A, B, C]])
        self.assertEqual(led(KITE, [(1, 0, 2, 3)]), [[(0, 1)], [(0, 2), (1, 2)], [(2, 3)]])
        self.assertEqual(led(SQUARE, [(2, 3, 0, 1)]), [[(0, 1), (2, 3)], [(0, 3), (1, 2)]])
        self.assertEqual(led(SQUARE, [(2, 3, 0, 1), (0, 3, 2, 1)]), [list(SQUARE[1])])

    def test_to_be_gone_several_times(self):
        self.assertEqual(led(RING_OF_SEVEN, [round_of(7)]), [list(RING_OF_SEVEN[1])])
        self.assertEqual(led(RING_OF_SIX, [tuple((place + 2) % 6 for place in range(6))]),
                         [[(0, 1), (2, 3), (4, 5)], [(0, 5), (1, 2), (3, 4)]])
        turn = (0, 2, 3, 4, 5, 6, 7, 1)
        self.assertEqual(led(STAR_OF_EIGHT, [turn]), [list(STAR_OF_EIGHT[1])])

    def test_several_one_behind_another(self):
        swaps = []
        for place in range(1, 7):
            order = list(range(8))
            order[place], order[place + 1] = place + 1, place
            swaps.append(tuple(order))
        self.assertEqual(led(STAR_OF_EIGHT, swaps), [list(STAR_OF_EIGHT[1])])
        self.assertEqual(led(STAR_OF_EIGHT, swaps[::-1]), [list(STAR_OF_EIGHT[1])])
        ties = list(STAR_OF_EIGHT[1])
        self.assertEqual(led(STAR_OF_EIGHT, swaps[:3] + swaps[4:]), [ties[:4], ties[4:]])

    def test_without_ties(self):
        self.assertEqual(led(ONE_PLACE, []), [])
        self.assertEqual(led(ONE_PLACE, [(0,)]), [])
        self.assertEqual(led(NO_TIES, [(1, 0, 3, 2), (0, 1, 2, 3)]), [])

    def test_each_frame(self):
        chance = random.Random(24)
        for frame in FRAMES:
            for count in (0, 1, 1, 2, 3, 8):
                orders = some_turns(frame, chance, count)
                told = led(frame, orders)
                self.assertEqual(told, led_by_hand(frame, orders), (frame, orders))
                self.assertEqual(sorted(tie for part in told for tie in part), list(frame[1]))
                self.assertTrue(type(told) is list and all(type(part) is list for part in told) and plain(told))


class Kinds(unittest.TestCase):
    def test_by_hand(self):
        self.assertEqual(kinds(ONE_TIE, [(1, 0)]), [[()], [((0, 1),)]])
        self.assertEqual(kinds(PATH, [(2, 1, 0)]), [[()], [((0, 1),), ((1, 2),)], [((0, 1), (1, 2))]])
        self.assertEqual(kinds(ALL_THREE, [(0, 2, 1)]), [
            [()], [(A,), (B,)], [(A, B)], [(C,)], [(A, C), (B, C)], [(A, B, C)]])
        self.assertEqual(kinds(ALL_THREE, [(1, 2, 0)]), [[()], [(A,), (B,), (C,)], [(A, B), (A, C), (B, C)], [(A, B, C)]])
        told = kinds(ALL_FOUR, turns_by_hand(ALL_FOUR))
        self.assertEqual([len(kind) for kind in told], [1, 6, 12, 4, 4, 3, 12, 12, 3, 6, 1])
        self.assertEqual(told[5], [((0, 3), (1, 2)), ((0, 2), (1, 3)), ((0, 1), (2, 3))])

    def test_no_turns(self):
        for frame in FRAMES:
            self.assertEqual(kinds(frame, []), [[web] for web in all_webs(frame)])
            self.assertEqual(kinds(frame, [tuple(range(frame[0]))]), [[web] for web in all_webs(frame)])

    def test_without_ties(self):
        self.assertEqual(kinds(ONE_PLACE, []), [[()]])
        self.assertEqual(kinds(ONE_PLACE, [(0,)]), [[()]])
        self.assertEqual(kinds(NO_TIES, [(1, 0, 3, 2)]), [[()]])

    def test_each_frame(self):
        chance = random.Random(240)
        for frame in FRAMES:
            for count in (1, 2, 4):
                orders = some_turns(frame, chance, count)
                told = kinds(frame, orders)
                self.assertEqual(told, kinds_by_hand(frame, orders), (frame, orders))
                self.assertEqual(sum(len(kind) for kind in told), 2 ** len(frame[1]))
                self.assertTrue(type(told) is list and all(type(kind) is list for kind in told) and plain(told))

    def test_in_good_time(self):
        orders = random.Random(241).sample(turns_by_hand(STAR_OF_EIGHT), 300)
        with at_once(5):
            self.assertEqual([len(kind) for kind in kinds(STAR_OF_EIGHT, orders)], [1, 7, 21, 35, 35, 21, 7, 1])
            self.assertEqual(len(led(STAR_OF_EIGHT, orders)), 1)
            self.assertIs(all_by_turns(STAR_OF_EIGHT, ("hub",), orders), True)


class NoTurns(unittest.TestCase):
    def refused(self, frame, orders):
        for asked in (led, kinds, lambda frame, orders: all_by_turns(frame, JOINED, orders),
                      lambda frame, orders: all_by_turns(frame, ("tie",) + frame[1][0] if frame[1] else JOINED, orders),
                      lambda frame, orders: all_by_turns(frame, ("many", 0), orders)):
            with self.assertRaises(NoTurn) as caught:
                asked(frame, orders)
            self.assertIsInstance(caught.exception, AskError)

    def test_first_last_and_between(self):
        for frame in (ALL_THREE, KITE, SQUARE, RING_OF_SEVEN, RING_OF_SIX, ALL_FOUR, ONE_TIE, ONE_PLACE, NO_TIES):
            order = tuple(range(frame[0]))
            others = turns_by_hand(frame)[-2:]
            for wrong in [(), order[1:], order + (0,), list(order), (0,) * (frame[0] + 1), None, True, 0, "012", {}, [order],
                          tuple(bool(place) for place in order), (order,), order[:-1] + (frame[0],), order[:-1] + (-1,)]:
                for orders in ([wrong], [wrong] + others, others + [wrong], others[:1] + [wrong] + others[1:], [wrong] * 3):
                    self.refused(frame, orders)

    def test_orders_that_are_no_turns(self):
        for wrong in [(0, 2, 1, 3), (3, 1, 2, 0), (1, 2, 3, 0)]:
            self.refused(KITE, [wrong])
            self.refused(KITE, [(1, 0, 2, 3), wrong])
            self.refused(KITE, [wrong, (1, 0, 2, 3)])
        self.refused(RING_OF_SEVEN, [round_of(7), (1, 0, 2, 3, 4, 5, 6)])

    def test_strange_things(self):
        for at, thing in enumerate(strange_things()):
            with self.subTest(at=at), at_once():
                for frame in (ALL_THREE, ONE_PLACE, (2, ()), SQUARE):
                    order = tuple(range(frame[0]))
                    for orders in ([thing], [order, thing], [thing, order], [order, thing, order]):
                        for asked in (led, kinds):
                            with self.assertRaises(NoTurn):
                                asked(frame, orders)
                        with self.assertRaises(NoTurn):
                            all_by_turns(frame, JOINED, orders)

    def test_what_is_refused_changes_nothing(self):
        orders = [(1, 2, 0), [0, 1, 2]]
        self.refused(ALL_THREE, orders)
        self.assertEqual(orders, [(1, 2, 0), [0, 1, 2]])
        self.assertEqual(led(ALL_THREE, [(1, 2, 0)]), [[A, B, C]])


class AllByTurns(unittest.TestCase):
    def yes(self, frame, wish, orders):
        self.assertIs(all_by_turns(frame, wish, orders), True, (frame, wish, orders))
        self.assertEqual(least(frame, wish, nothing(frame)), len(frame[1]))

    def no(self, frame, wish, orders):
        self.assertIs(all_by_turns(frame, wish, orders), False, (frame, wish, orders))

    def test_by_hand(self):
        for frame in (ALL_THREE, SQUARE, RING_OF_FIVE, RING_OF_SEVEN):
            turn = round_of(frame[0])
            for wish in (JOINED, ("not", JOINED), ("ring",), ("many", 2), ("lone",), ("not", ("hub",))):
                if wish != ("not", ("hub",)) or frame == ALL_THREE:
                    self.yes(frame, wish, [turn])
                    self.yes(frame, wish, [turn, tuple(range(frame[0]))])
                    self.yes(frame, wish, turns_by_hand(frame))
        self.yes(PATH, ("many", 1), [(2, 1, 0)])
        self.yes(PATH, JOINED, [(2, 1, 0)])
        self.yes(STAR_OF_EIGHT, ("hub",), [(0, 2, 3, 4, 5, 6, 7, 1)])
        self.yes(ALL_THREE, JOINED, [(0, 2, 1), (2, 1, 0)])

    def test_how_many_ties(self):
        for frame, orders in [(RING_OF_SIX, [round_of(6)]), (ALL_FOUR, turns_by_hand(ALL_FOUR)), (ONE_TIE, [(1, 0)]),
                              (ONE_TIE, []), (ONE_PLACE, [(0,)]), (ONE_PLACE, []), (NO_TIES, [round_of(4)])]:
            for wish in (JOINED, ("many", 1), ("lone",), ("not", ("many", 1)), ("odd",)):
                self.no(frame, wish, orders)
                self.no((frame[0], frame[1]), ("not", wish), orders)

    def test_a_turn_that_does_not_keep_the_wish(self):
        for frame in (ALL_THREE, SQUARE, RING_OF_FIVE, RING_OF_SEVEN):
            self.no(frame, ("tie", 0, 1), [round_of(frame[0])])
            self.no(frame, ("ends", 0, 1), [round_of(frame[0])])
        self.no(PATH, ("tie", 0, 1), [(2, 1, 0)])

    def test_one_turn_of_several_does_not_keep_the_wish(self):
        ahead = round_of(7)
        about = ahead[::-1]
        ring = [tuple(sorted((place, ahead[place]))) for place in range(7)]
        alike = {tuple(sorted(ring[(start + k) % 7] for k in (0, 1, 3))) for start in range(7)}
        truths = tuple(web in alike or len(web) == 7 for web in all_webs(RING_OF_SEVEN))
        self.yes(RING_OF_SEVEN, ("told", truths), [ahead])
        for orders in ([ahead, about], [about, ahead], [ahead, about, ahead]):
            self.no(RING_OF_SEVEN, ("told", truths), orders)

    def test_not_each_tie_led_to_each_other(self):
        for frame in (PATH, ALL_THREE, SQUARE, KITE, RING_OF_FIVE, RING_OF_SEVEN, STAR_OF_EIGHT):
            self.no(frame, JOINED, [])
            self.no(frame, JOINED, [tuple(range(frame[0]))])
        self.no(ALL_THREE, JOINED, [(0, 2, 1)])
        self.no(SQUARE, JOINED, [(2, 3, 0, 1)])
        self.no(KITE, JOINED, turns_by_hand(KITE))
        self.no(STAR_OF_EIGHT, ("hub",), [(0, 2, 3, 4, 5, 6, 1, 7)])

    def test_both_or_neither_of_the_two_webs(self):
        for frame in (ALL_THREE, SQUARE, RING_OF_FIVE, RING_OF_SEVEN):
            turn = round_of(frame[0])
            for wish in (("many", 0), ("many", 99), ("both", ("many", 1), ("not", JOINED)), ("either", ("lone",), JOINED)):
                self.no(frame, wish, [turn])
                self.no(frame, ("not", wish), [turn])
        self.no(SQUARE, ("odd",), [round_of(4)])
        self.no(SQUARE, ("not", ("odd",)), [round_of(4)])
        self.yes(RING_OF_SEVEN, ("odd",), [round_of(7)])

    def test_each_frame(self):
        chance = random.Random(25)
        found = 0
        frames = [PATH, SQUARE, RING_OF_SIX] + FRAMES
        for frame in frames:
            for _ in range(12):
                wish = chance.choice(simple_wishes(frame, chance) + [some_wish(frame, chance, 2), JOINED, ("odd",)] * 10)
                orders = some_turns(frame, chance, chance.randrange(4))
                truths = truths_by_hand(frame, wish)
                so = len(led_by_hand(frame, orders)) == 1 and len(frame[1]) in {2, 3, 4, 5, 7}
                so = so and truths[0] is not truths[-1]
                so = so and all(keeps_by_hand(frame, wish, order) for order in orders)
                self.assertIs(all_by_turns(frame, wish, orders), so, (frame, wish, orders))
                if so:
                    found += 1
                    self.assertEqual(least(frame, wish, nothing(frame)), len(frame[1]))
        self.assertGreater(found, 5)

    def test_the_table_is_reckoned_once(self):
        orders = turns_by_hand(RING_OF_SEVEN)
        with mock.patch("allasked.kinds.table_of", side_effect=lambda *two: list(truths_by_hand(*two))) as table:
            self.assertIs(all_by_turns(RING_OF_SEVEN, JOINED, orders), True)
        self.assertLessEqual(table.call_count, 1)

    def test_many_parts_at_once(self):
        heavy = nested(JOINED, lambda inner: ("one", inner, ("sides",)), 10)
        with at_once(5):
            self.yes(RING_OF_SEVEN, heavy, turns_by_hand(RING_OF_SEVEN) * 20)


class TheWhole(unittest.TestCase):
    def test_how_many_webs_of_a_kind_have_a_tie(self):
        for frame in (PATH, ALL_THREE, SQUARE, ALL_FOUR, RING_OF_FIVE, RING_OF_SIX, RING_OF_SEVEN):
            self.assertEqual(len(led(frame, turns_by_hand(frame))), 1)
            for kind in kinds(frame, turns_by_hand(frame)):
                for tie in frame[1]:
                    having = [web for web in kind if tie in web]
                    self.assertEqual(len(kind[0]) * len(kind), len(frame[1]) * len(having))


class KindsAreKept(unittest.TestCase):
    def test_lists_handed_in_stay(self):
        orders = [(1, 2, 0), (0, 2, 1)]
        before = kinds_of(orders)
        for _ in range(2):
            led(ALL_THREE, orders)
            kinds(ALL_THREE, orders)
            all_by_turns(ALL_THREE, JOINED, orders)
            self.assertEqual(kinds_of(orders), before)

    def test_lists_told_are_the_askers_own(self):
        for asked in (led, kinds):
            orders = [(0, 2, 1)]
            kept = asked(ALL_THREE, orders)
            right = [list(part) for part in kept]
            told = asked(ALL_THREE, orders)
            told[0].append("more")
            told[1][0] = "gone"
            told.pop()
            orders.append((1, 2, 0))
            self.assertEqual(kept, right)
            self.assertEqual(asked(ALL_THREE, [(0, 2, 1)]), right)


if __name__ == "__main__":
    unittest.main()
