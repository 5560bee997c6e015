"""Point 3: what is promised over the whole program; and what point 2 says over all of it."""

import itertools
import random
import unittest

from allasked.changed import cut, put_together
from allasked.counts import counts, divided, signed, spared
from allasked.foes import paper_for, played
from allasked.frames import frame_of, is_frame, is_web, web_of, webs
from allasked.games import Game
from allasked.growth import least_noes, least_yeses, ungrown
from allasked.kinds import all_by_turns, kinds, led
from allasked.known import fitting, is_known
from allasked.least import best_asks, least, plan_for
from allasked.papers import holds_out
from allasked.plans import ends, followed, is_plan, lets_by, worst
from allasked.reader import read_frame, read_known, read_plan, read_wish
from allasked.reasons import greatest_reasons, is_reason, reason
from allasked.shapes import pieces, ring_of, sides_of
from allasked.shown import showing_of, shows
from allasked.sums import degree, is_sum, sum_of
from allasked.tables import first_unlike, table_of
from allasked.texts import frame_text, known_text, plan_text, wish_text
from allasked.turns import is_turn, turned_known, turned_wish, unkept
from allasked.wishes import is_wish
from tests.samples import ALL_FOUR, ALL_THREE, FRAMES, ONE_TIE, RING_OF_SEVEN, all_plans, all_webs
from tests.samples import end_by_hand, fitting_by_hand, has_by_hand, keeps_by_hand, kinds_of, least_by_hand, nothing
from tests.samples import paper_by_hand, simple_wishes, some_known, some_plan, some_wish, turned_by_hand, turns_by_hand
from tests.samples import with_tie

A, B, C = ALL_THREE[1]
SQUARE = (4, ((0, 1), (0, 3), (1, 2), (2, 3)))
FIVE = (5, ((0, 1), (0, 4), (1, 2), (2, 3), (3, 4)))
FEW = [frame for frame in FRAMES if len(frame[1]) <= 5]
WORDS = ("both", "either", "one")


def wishes_of(frame, chance, count):
    """Wishes of all kinds."""
    simple = simple_wishes(frame, chance)
    return chance.sample(simple, min(count, len(simple))) + [some_wish(frame, chance, 3) for _ in range(count)]


def cases(seed, count=4, frames=FRAMES):
    """Frames and wishes of all kinds."""
    chance = random.Random(seed)
    for frame in frames:
        for wish in wishes_of(frame, chance, count):
            yield frame, wish


def growing(frame, wish):
    """Whether a wish grows, over all webs."""
    having = [set(web) for web in all_webs(frame) if has_by_hand(frame, wish, web)]
    return all(set(web) | {tie} in having for web in having for tie in frame[1])


def told(frame, has):
    """The wish of the webs of which this is so."""
    return ("told", tuple(bool(has(web)) for web in all_webs(frame)))


def named_anew(frame, names):
    return frame_of(frame[0], [(names[a], names[b]) for a, b in frame[1]])


def wish_named_anew(frame, names, wish):
    """The wish of the same ties, by their new names."""
    if wish[0] in ("tie", "way"):
        return (wish[0],) + tuple(sorted(names[place] for place in wish[1:]))
    if wish[0] == "ends":
        return (wish[0], names[wish[1]], wish[2])
    if wish[0] == "told":
        truths = {turned_by_hand(names, web): truth for web, truth in zip(all_webs(frame), wish[1])}
        return ("told", tuple(truths[web] for web in all_webs(named_anew(frame, names))))
    return (wish[0],) + tuple(wish_named_anew(frame, names, part) if type(part) is tuple else part for part in wish[1:])


class Plans(unittest.TestCase):
    def test_let_by_just_where_it_tells_of_each_web(self):
        chance = random.Random(300)
        both = set()
        for frame, wish in cases(301, 2):
            for known in [nothing(frame)] + some_known(frame, chance, 1):
                free = [tie for tie, truth in zip(frame[1], known) if truth is None]
                for plan in [plan_for(frame, wish, known)] + [some_plan(free, chance) for _ in range(3)]:
                    webs_there = fitting_by_hand(frame, known)
                    right = all(end_by_hand(plan, web) is has_by_hand(frame, wish, web) for web in webs_there)
                    self.assertIs(lets_by(frame, wish, known, plan), right)
                    both.add(right)
        self.assertEqual(both, {True, False})


class TheLeast(unittest.TestCase):
    def test_the_least_the_plan_and_the_paper(self):
        chance = random.Random(302)
        for frame, wish in cases(303, 3):
            for known in [nothing(frame)] + some_known(frame, chance, 1):
                found = least(frame, wish, known)
                self.assertEqual(found, least_by_hand(frame, wish, known))
                plan, paper = plan_for(frame, wish, known), paper_for(frame, wish, known)
                self.assertIs(lets_by(frame, wish, known, plan), True)
                for web in fitting_by_hand(frame, known):
                    self.assertLessEqual(len(followed(plan, web)[1]), found)
                self.assertIs(holds_out(frame, wish, known, found, paper), True)
                self.assertIs(shows(frame, wish, known, (found, plan, paper)), True)

    def test_no_plan_that_is_let_by_asks_fewer_than_a_paper_tells(self):
        plans = all_plans(ALL_THREE[1])
        for wish in [("joined",), ("way", 0, 2), ("one", ("tie", 0, 1), ("tie", 1, 2))]:
            orders = [order for order in turns_by_hand(ALL_THREE) if keeps_by_hand(ALL_THREE, wish, order)]
            papers = [paper_for(ALL_THREE, wish, (None,) * 3), paper_by_hand(ALL_THREE, wish, (None,) * 3, orders)]
            for paper in papers:
                number = paper[0][1]
                self.assertIs(holds_out(ALL_THREE, wish, (None,) * 3, number, paper), True)
                let_by = [plan for plan in plans[::3] if lets_by(ALL_THREE, wish, (None,) * 3, plan)]
                for plan in let_by + [plan_for(ALL_THREE, wish, (None,) * 3)]:
                    self.assertGreaterEqual(worst(plan), number)
                    self.assertGreaterEqual(len(played(ALL_THREE, paper, plan)), number)

    def test_whatever_shows_a_number(self):
        for frame, wish in cases(304, 2):
            number, plan, paper = showing_of(frame, wish, nothing(frame))
            self.assertEqual(number, least(frame, wish, nothing(frame)))
            for other in range(-1, 9):
                self.assertIs(shows(frame, wish, nothing(frame), (other, plan, paper)), other == number)

    def test_a_wish_that_all_webs_have_or_none(self):
        chance = random.Random(305)
        for frame in FRAMES:
            inner = some_wish(frame, chance, 1)
            for wish in [("many", 0), ("many", 99), ("either", inner, ("not", inner)), ("both", inner, ("not", inner))]:
                for known in [nothing(frame)] + some_known(frame, chance, 1):
                    self.assertEqual(least(frame, wish, known), 0)
                    self.assertEqual(best_asks(frame, wish, known), [])

    def test_a_wish_its_opposite_of_the_missing_web_and_turned(self):
        chance = random.Random(306)
        for frame, wish in cases(307, 2):
            found = least(frame, wish, nothing(frame))
            order = chance.choice(turns_by_hand(frame))
            for other in [("not", wish), ("missing", wish), turned_wish(frame, order, wish)]:
                self.assertEqual(least(frame, other, nothing(frame)), found)
            for known in some_known(frame, chance, 1):
                found = least(frame, wish, known)
                self.assertEqual(least(frame, ("not", wish), known), found)
                turned = least(frame, turned_wish(frame, order, wish), turned_known(frame, order, known))
                self.assertEqual(turned, found)

    def test_one_tie_more_known(self):
        chance = random.Random(308)
        for frame, wish in cases(309, 2):
            for known in [nothing(frame)] + some_known(frame, chance, 1):
                found = least(frame, wish, known)
                for tie in [tie for tie, truth in zip(frame[1], known) if truth is None][:3]:
                    more = [least(frame, wish, with_tie(frame, known, tie, truth)) for truth in (True, False)]
                    self.assertLessEqual(max(more), found)
                    self.assertGreaterEqual(max(more), found - 1)

    def test_in_whatever_order_the_ties_came_to_be_known(self):
        chance = random.Random(310)
        for frame, wish in cases(311, 1, FEW):
            answers = [(tie, chance.choice((True, False))) for tie in frame[1][:3]]
            lefts = set()
            for order in itertools.permutations(answers):
                game = Game(frame, wish)
                for tie, truth in order:
                    game.tell(tie, truth)
                lefts.add((game.left(), game.settled(), game.best(), game.known()))
            self.assertEqual(len(lefts), 1)


class FromBelow(unittest.TestCase):
    def test_spared_by_counts(self):
        for frame, wish in cases(312):
            self.assertGreaterEqual(least(frame, wish, nothing(frame)), len(frame[1]) - spared(frame, wish))

    def test_degree_of_the_sum(self):
        for frame, wish in cases(313):
            self.assertGreaterEqual(least(frame, wish, nothing(frame)), degree(frame, wish))

    def test_least_yeses_and_noes(self):
        grown = 0
        for frame, wish in cases(314, 8):
            self.assertIs(ungrown(frame, wish) is None, growing(frame, wish))
            if ungrown(frame, wish) is None:
                found = least(frame, wish, nothing(frame))
                yeses, noes = least_yeses(frame, wish), least_noes(frame, wish)
                for ties in yeses + noes:
                    self.assertGreaterEqual(found, len(ties))
                if yeses and noes:
                    grown += 1
                    self.assertGreaterEqual(found, min(map(len, yeses)) + min(map(len, noes)) - 1)
                for yes in yeses:
                    for no in noes:
                        self.assertTrue(set(yes) & set(no))
        self.assertGreater(grown, 30)

    def test_greatest_reasons(self):
        for frame, wish in cases(315):
            found = least(frame, wish, nothing(frame))
            yes, no = greatest_reasons(frame, wish)
            self.assertGreaterEqual(found, max(yes or 0, no or 0))
            if yes is not None and no is not None:
                self.assertLessEqual(found, yes * no)

    def test_the_signed_count_stands_in_the_sum(self):
        for frame, wish in cases(316):
            last = dict(sum_of(frame, wish)).get(frame[1], 0)
            self.assertEqual(last, signed(frame, wish) * (-1) ** len(frame[1]))


class ByTurns(unittest.TestCase):
    def test_kinds_where_each_tie_is_led_to_each_other(self):
        shown = 0
        for frame in FRAMES:
            orders = turns_by_hand(frame)[:40]
            if len(led(frame, orders)) == 1:
                shown += 1
                for kind in kinds(frame, orders):
                    self.assertEqual(len({len(web) for web in kind}), 1)
                    for tie in frame[1]:
                        having = sum(tie in web for web in kind)
                        self.assertEqual(len(kind[0]) * len(kind), len(frame[1]) * having)
        self.assertGreater(shown, 5)

    def test_all_by_turns(self):
        chance = random.Random(317)
        shown = 0
        for frame in (ONE_TIE, ALL_THREE, (3, ((0, 1), (1, 2))), SQUARE, FIVE, RING_OF_SEVEN):
            orders = turns_by_hand(frame)
            parts = kinds(frame, orders)
            for _ in range(25):
                having = [web for kind in parts if chance.random() < 0.5 for web in kind]
                wish = told(frame, lambda web: web in having)
                if all_by_turns(frame, wish, orders):
                    shown += 1
                    self.assertEqual(least(frame, wish, nothing(frame)), len(frame[1]))
            for wish in [("joined",), ("odd",), ("ring",), ("lone",)]:
                if all_by_turns(frame, wish, orders):
                    self.assertEqual(least(frame, wish, nothing(frame)), len(frame[1]))
        self.assertGreater(shown, 30)

    def test_growing_wishes_kept_by_all_turns_need_all(self):
        for frame in (ONE_TIE, ALL_THREE, ALL_FOUR):
            orders = turns_by_hand(frame)
            parts = kinds(frame, orders)
            # Of each choice of kinds, the webs that have some chosen one within them.
            seen = set()
            for chosen in itertools.chain.from_iterable(itertools.combinations(parts, k) for k in (1, 2, 3)):
                having = {web for web in all_webs(frame)
                          if any(set(other) <= set(web) for kind in chosen for other in kind)}
                seen.add(frozenset(having))
            for having in seen:
                wish = told(frame, lambda web: web in having)
                self.assertIsNone(ungrown(frame, wish))
                self.assertTrue(all(unkept(frame, wish, order) is None for order in orders))
                if 0 < len(having) < len(all_webs(frame)):
                    self.assertEqual(least(frame, wish, nothing(frame)), len(frame[1]))


class TwoWishes(unittest.TestCase):
    def test_no_more_than_the_two_leasts_together(self):
        chance = random.Random(318)
        for frame, wish in cases(319, 2):
            other = some_wish(frame, chance, 2)
            both = least(frame, wish, nothing(frame)) + least(frame, other, nothing(frame))
            one_plan, other_plan = plan_for(frame, wish, nothing(frame)), plan_for(frame, other, nothing(frame))
            for word in WORDS:
                found = least(frame, (word, wish, other), nothing(frame))
                self.assertLessEqual(found, both)
                made = put_together(frame, word, one_plan, other_plan)
                self.assertIs(lets_by(frame, (word, wish, other), nothing(frame), made), True)
                self.assertTrue(found <= worst(made) <= both)

    def tells_on(self, frame, wish, tie):
        """Whether the tie's being there or not changes the wish for some web."""
        for web in all_webs(frame):
            more = tuple(sorted(set(web) | {tie}))
            if has_by_hand(frame, wish, web) != has_by_hand(frame, wish, more):
                return True
        return False

    def test_just_so_many_where_no_tie_tells_on_both(self):
        shown = 0
        frames = [(4, ((0, 1), (0, 2), (1, 2), (2, 3))), (5, ((0, 1), (0, 2), (1, 2), (3, 4))), SQUARE, FIVE]
        for frame in frames:
            wishes = [wish for wish in simple_wishes(frame, random.Random(320)) if len(set(table_of(frame, wish))) == 2]
            tells = {wish: {tie for tie in frame[1] if self.tells_on(frame, wish, tie)} for wish in wishes}
            for one, other in itertools.combinations(wishes, 2):
                if not tells[one] & tells[other]:
                    shown += 1
                    both = least(frame, one, nothing(frame)) + least(frame, other, nothing(frame))
                    for word in WORDS:
                        self.assertEqual(least(frame, (word, one, other), nothing(frame)), both, (frame, one, other))
        self.assertGreater(shown, 30)


class Foe(unittest.TestCase):
    def test_holds_out_as_long_as_told(self):
        chance = random.Random(321)
        for frame, wish in cases(322, 2):
            for _ in range(2):
                game = Game(frame, wish)
                told = game.left()
                for at, tie in enumerate(chance.sample(frame[1], len(frame[1]))):
                    if at < told:
                        self.assertIsNone(game.settled())
                    self.assertGreaterEqual(game.left(), told - at)
                    game.foe(tie)

    def test_the_foe_of_a_paper(self):
        chance = random.Random(323)
        for frame, wish in cases(324, 1):
            known = chance.choice([nothing(frame)] + some_known(frame, chance, 1))
            paper = paper_for(frame, wish, known)
            plan = plan_for(frame, wish, known)
            told = played(frame, paper, plan)
            self.assertEqual(len(told), least(frame, wish, known))
            there = known
            for tie, answer in told:
                self.assertIsNone(there[frame[1].index(tie)])
                there = with_tie(frame, there, tie, answer)
            self.assertEqual(least(frame, wish, there), 0)


class NamedAnew(unittest.TestCase):
    def numbers(self, frame, wish, orders):
        """All that should stay whatever the places are called."""
        grows = ungrown(frame, wish) is None
        return {
            "least": least(frame, wish, nothing(frame)),
            "best": len(best_asks(frame, wish, nothing(frame))),
            "counts": counts(frame, wish),
            "signed": signed(frame, wish),
            "spared": spared(frame, wish),
            "degree": degree(frame, wish),
            "sum": sorted((len(web), number) for web, number in sum_of(frame, wish)),
            "reasons": greatest_reasons(frame, wish),
            "grows": grows,
            "yeses": sorted(map(len, least_yeses(frame, wish))) if grows else None,
            "noes": sorted(map(len, least_noes(frame, wish))) if grows else None,
            "led": sorted(map(len, led(frame, orders))),
            "kinds": sorted((len(kind), len(kind[0])) for kind in kinds(frame, orders)),
            "kept": [unkept(frame, wish, order) is None for order in orders],
            "all": all_by_turns(frame, wish, orders),
            "table": sum(table_of(frame, wish)),
            "worst": worst(showing_of(frame, wish, nothing(frame))[1]),
        }

    def test_all_of_this_stays(self):
        chance = random.Random(325)
        for frame, wish in cases(326, 2):
            names = tuple(chance.sample(range(frame[0]), frame[0]))
            other, anew = named_anew(frame, names), wish_named_anew(frame, names, wish)
            self.assertIs(is_frame(other), True)
            self.assertIs(is_wish(other, anew), True)
            orders = chance.sample(turns_by_hand(frame), min(3, len(turns_by_hand(frame))))
            back = {name: place for place, name in enumerate(names)}
            others = [tuple(names[order[back[place]]] for place in range(frame[0])) for order in orders]
            self.assertTrue(all(is_turn(other, order) for order in others))
            self.assertEqual(self.numbers(frame, wish, orders), self.numbers(other, anew, others))
            for web in chance.sample(all_webs(frame), min(5, len(all_webs(frame)))):
                turned = turned_by_hand(names, web)
                self.assertEqual(len(reason(other, anew, turned)), len(reason(frame, wish, web)))


class WrittenAndRead(unittest.TestCase):
    def test_what_is_written_reads_back(self):
        chance = random.Random(327)
        for frame, wish in cases(328):
            self.assertEqual(kinds_of(read_frame(frame_text(frame))), kinds_of(frame))
            if is_wish(frame, wish):
                self.assertEqual(kinds_of(read_wish(frame, wish_text(wish))), kinds_of(wish))
            known = some_known(frame, chance, 1)[0]
            self.assertEqual(kinds_of(read_known(frame, known_text(known))), kinds_of(known))
            for plan in [plan_for(frame, wish, nothing(frame)), plan_for(frame, wish, known)]:
                self.assertEqual(kinds_of(read_plan(frame, plan_text(plan))), kinds_of(plan))
                self.assertEqual(kinds_of(cut(frame, plan, known)), kinds_of(read_plan(frame, plan_text(cut(frame, plan, known)))))


class OverAll(unittest.TestCase):
    """Point 2 over the whole program."""

    def calls(self):
        """Calls that tell lists, or tuples with lists in them."""
        frame, wish, known = ALL_THREE, ("joined",), (None, True, None)
        plan, paper = plan_for(frame, wish, known), paper_for(frame, wish, known)
        turn = [(1, 2, 0)]
        return [
            lambda: webs(frame), lambda: pieces(frame, (A,)), lambda: ring_of(frame, (A, B, C)), lambda: sides_of(frame, (A,)),
            lambda: table_of(frame, wish), lambda: fitting(frame, known), lambda: followed(plan, (A, B)),
            lambda: best_asks(frame, wish, known), lambda: paper_for(frame, wish, known), lambda: played(frame, paper, plan),
            lambda: showing_of(frame, wish, known), lambda: counts(frame, wish), lambda: divided([1, 1]),
            lambda: sum_of(frame, wish), lambda: least_yeses(frame, wish), lambda: least_noes(frame, wish),
            lambda: led(frame, turn), lambda: kinds(frame, turn),
        ]

    def spoil(self, thing):
        """Do all that can be done to the lists in a thing."""
        if type(thing) in (list, tuple):
            for part in thing:
                self.spoil(part)
        if type(thing) is list:
            thing.append("more")
            thing.reverse()
            del thing[1:]

    def test_what_was_told_is_changed_and_the_next_answer_is_as_before(self):
        for at, call in enumerate(self.calls()):
            with self.subTest(at=at):
                kept, before = call(), kinds_of(call())
                self.spoil(call())
                self.assertEqual(kinds_of(kept), before)
                self.assertEqual(kinds_of(call()), before)
        for at, call in enumerate(self.calls()):
            with self.subTest(at=at):
                self.assertTrue(any(type(part) is list for part in [call()] + list(call())))

    def test_lists_handed_in_stay_and_may_be_changed_afterwards(self):
        ties, web, orders, numbers = [(1, 0), (2, 1)], [(2, 1)], [(2, 1, 0)], [1, 1]
        frame = frame_of(3, ties)
        made = web_of(frame, web)
        parts, halves = led(frame, orders), divided(numbers)
        self.assertEqual((ties, web, orders, numbers), ([(1, 0), (2, 1)], [(2, 1)], [(2, 1, 0)], [1, 1]))
        for thing in (ties, web, orders, numbers):
            thing.clear()
        self.assertEqual(frame, (3, (A, C)))
        self.assertEqual(made, (C,))
        self.assertEqual((parts, halves), ([[A, C]], [1]))

    def test_a_truth_is_no_number(self):
        frame, wish, known = ONE_TIE, ("tie", 0, 1), (None,)
        self.assertIs(is_frame((2, ((0, 1),))), True)
        self.assertIs(is_frame((2, ((False, True),))), False)
        self.assertIs(is_frame((True, ())), False)
        self.assertIs(is_web(frame, ((False, True),)), False)
        self.assertIs(is_wish(frame, ("tie", False, True)), False)
        self.assertIs(is_wish(frame, ("many", True)), False)
        self.assertIs(is_wish(frame, ("told", (0, 1))), False)
        self.assertIs(is_known(frame, (1,)), False)
        self.assertIs(is_known(frame, (0,)), False)
        self.assertIs(is_turn(frame, (True, False)), False)
        self.assertIs(is_plan(frame, known, ("end", 1)), False)
        self.assertIs(lets_by(frame, wish, known, ("ask", (0, 1), ("end", 1), ("end", 0))), False)
        self.assertIs(lets_by(frame, wish, known, ("ask", (False, True), ("end", True), ("end", False))), False)
        row = ((None,), 1, (((0, 1),), ()), ())
        self.assertIs(holds_out(frame, wish, known, 1, [row]), True)
        self.assertIs(holds_out(frame, wish, known, 1, [(known, True, row[2], ())]), False)
        self.assertIs(holds_out(frame, wish, known, 1, [(known, 1, (((False, True),), ()), ())]), False)
        ask = ("ask", (0, 1), ("end", True), ("end", False))
        self.assertIs(shows(frame, wish, known, (1, ask, [row])), True)
        self.assertIs(shows(frame, wish, known, (True, ask, [row])), False)
        self.assertIs(is_sum(frame, wish, [(((0, 1),), 1)]), True)
        self.assertIs(is_sum(frame, wish, [(((0, 1),), True)]), False)
        self.assertIs(is_sum(frame, wish, [(((False, True),), 1)]), False)
        self.assertIs(is_reason(frame, wish, (), ((0, 1),)), True)
        self.assertIs(is_reason(frame, wish, (), ((False, True),)), False)

    def test_numbers_told_are_numbers_and_truths_truths(self):
        for frame, wish in cases(329, 1):
            known = nothing(frame)
            plan = plan_for(frame, wish, known)
            for number in [least(frame, wish, known), degree(frame, wish), signed(frame, wish), spared(frame, wish), worst(plan),
                           ends(plan), showing_of(frame, wish, known)[0]] + counts(frame, wish):
                self.assertIs(type(number), int)
            for truth in table_of(frame, wish) + [followed(plan, ())[0], all_by_turns(frame, wish, [])]:
                self.assertIs(type(truth), bool)
            self.assertIsNone(first_unlike(frame, wish, ("not", ("not", wish))))


if __name__ == "__main__":
    unittest.main()
