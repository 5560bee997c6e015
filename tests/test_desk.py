"""Point 28: the desk."""

import random
import unittest

from allasked.desk import Desk
from allasked.errors import AskError, NoBack, NoRow, NoText, NoTie, NoTruth
from allasked.plans import is_plan, lets_by, worst
from allasked.reader import read_plan
from allasked.texts import frame_text, plan_text, wish_text
from tests.samples import ALL_FOUR, ALL_THREE, FRAMES, NO_TIES, ONE_PLACE, ONE_TIE, RING_OF_SEVEN, STAR_OF_EIGHT
from tests.samples import all_webs, at_once, end_by_hand, fitting_by_hand, full_plan, has_by_hand, kinds_of
from tests.samples import least_by_hand, nested, nothing, some_plan, some_wish, strange_things, with_tie

A, B, C = ALL_THREE[1]
THREE = "places 3: 0-1 0-2 1-2"
JOINED = ("joined",)
SIGNS = {True: "+", False: "-", None: "."}
SINGLE_ROWS = ["back", "known", "settled", "left", "best", "plan", "counts", "frame", "wish"]
NO_TEXTS = [thing for thing in strange_things() if not isinstance(thing, str)] + [b"left", ["left"], ("tell", "0-1", "yes")]
ILL_WRITTEN_TIES = ["", "0", "1", "01", "0-", "-1", "-", "--", "0--1", "0-1-2", "1-0", "2-1", "0-0", "2-2", "00-1", "0-01",
                    "0-001", "0-100", "100-101", "0-123", "+0-1", "0-+1", "-0-1", "0_0-1", "0-1_", "a-b", "0-b", "yes", "no",
                    "0-1\n", "\n0-1", "0\n-1", "0-\n1", "\n", "(0-1)", "0-1?", "0-1?(yes;no)", "0,1", "(0,1)", "0;1", "0:1",
                    "tie", "none", "0-1;", "99-0", "0-1" * 600]
# Written as a tie, but none of the three places with all their ties.
OTHER_TIES = ["0-3", "1-3", "2-3", "3-4", "0-8", "0-10", "9-10", "10-99", "98-99", "0-99"]
NO_ANSWERS = ["", "y", "n", "Yes", "NO", "yes\n", "\nno", "yesno", "True", "False", "true", "+", "-", "1", "0", "ok", "none",
              "open", "yes.", "noo", "(yes)", "0-1"]


def settled_text(frame, wish, known):
    truths = {has_by_hand(frame, wish, web) for web in fitting_by_hand(frame, known)}
    return "open" if len(truths) == 2 else "yes" if truths == {True} else "no"


def best_text(frame, wish, known):
    found = least_by_hand(frame, wish, known)
    for tie, truth in zip(frame[1], known):
        if found and truth is None:
            more = [least_by_hand(frame, wish, with_tie(frame, known, tie, answer)) for answer in (True, False)]
            if max(more) < found:
                return f"{tie[0]}-{tie[1]}"
    return "none"


def counts_text(frame, wish):
    sizes = [len(web) for web in all_webs(frame) if has_by_hand(frame, wish, web)]
    return " ".join(str(sizes.count(k)) for k in range(len(frame[1]) + 1))


def asks_of_unknown(plan, frame, known):
    """The greatest number of asks of ties not known, over all webs that fit."""
    free = [tie for tie, truth in zip(frame[1], known) if truth is None]
    most = 0
    for web in fitting_by_hand(frame, known):
        rest, asked = plan, 0
        while rest[0] == "ask":
            asked += rest[1] in free
            rest = rest[2] if rest[1] in web else rest[3]
        most = max(most, asked)
    return most


def lets_text(frame, wish, known, plan):
    """The answer to lets, had of the webs that fit."""
    webs = fitting_by_hand(frame, known)
    if all(end_by_hand(plan, web) is has_by_hand(frame, wish, web) for web in webs):
        return f"yes {asks_of_unknown(plan, frame, known)}"
    return "no"


class Desks(unittest.TestCase):
    def desk(self, frame, wish):
        return Desk(frame_text(frame), wish_text(wish))

    def stands(self, desk, frame, wish, known):
        """All rows that change nothing are answered right."""
        right = {
            "known": "".join(SIGNS[truth] for truth in known),
            "settled": settled_text(frame, wish, known),
            "left": str(least_by_hand(frame, wish, known)),
            "best": best_text(frame, wish, known),
            "counts": counts_text(frame, wish),
            "frame": frame_text(frame),
            "wish": wish_text(wish),
        }
        told = {row: desk.say(row) for row in right}
        self.assertEqual(told, right, (frame, wish, known))
        self.assertEqual({type(text) for text in told.values()}, {str})
        text = desk.say("plan")
        self.assertIs(type(text), str)
        plan = read_plan(frame, text)
        self.assertIs(is_plan(frame, known, plan), True)
        self.assertIs(lets_by(frame, wish, known, plan), True)
        self.assertEqual(worst(plan), least_by_hand(frame, wish, known))
        self.assertEqual(desk.say("lets " + text), f"yes {worst(plan)}")

    def answers(self, desk):
        """All that a desk answers to rows that change nothing."""
        return [desk.say(row) for row in ("known", "settled", "left", "best", "counts", "frame", "wish")]

    def refused(self, desk, error, *rows):
        """Each row is refused with just this error, and changes nothing."""
        before = self.answers(desk)
        for row in rows:
            try:
                told = desk.say(row)
            except AskError as caught:
                self.assertIs(type(caught), error, row)
            else:
                self.fail((row, told))
        self.assertEqual(self.answers(desk), before)


class Made(Desks):
    def test_at_first(self):
        chance = random.Random(28)
        for frame in FRAMES:
            for wish in [JOINED, ("many", 0), ("many", 99), some_wish(frame, chance, 2)]:
                self.stands(self.desk(frame, wish), frame, wish, nothing(frame))

    def test_refused(self):
        for texts in [("", "odd"), (THREE + " ", "odd"), ("places 3: 0-1 0-1", "odd"), (None, "odd"), (ALL_THREE, "odd"),
                      (THREE, ""), (THREE, "Odd"), (THREE, "tie 0-3"), (THREE, "odd "), (THREE, None), (THREE, ("odd",)),
                      (THREE, "told ++"), ("odd", THREE), ("", ""), (None, None), ("places 2: 0-1", "tie 0-2"),
                      (THREE, "not(" * 24 + "odd" + ")" * 24), (THREE, THREE), ("odd", "odd"), (THREE, 3), (3, 3)]:
            with self.assertRaises(NoText) as caught:
                Desk(*texts)
            self.assertIs(type(caught.exception), NoText)
        for at, thing in enumerate(NO_TEXTS):
            with self.subTest(at=at), at_once():
                self.assertRaises(NoText, Desk, thing, "odd")
                self.assertRaises(NoText, Desk, THREE, thing)
                self.assertRaises(NoText, Desk, thing, thing)

    def test_without_ties(self):
        for frame, truth in ((ONE_PLACE, "yes"), (NO_TIES, "no")):
            desk = self.desk(frame, JOINED)
            self.assertEqual(desk.say("known"), "")
            self.assertEqual(desk.say("settled"), truth)
            self.assertEqual(desk.say("left"), "0")
            self.assertEqual(desk.say("best"), "none")
            self.assertEqual(desk.say("plan"), truth)
            self.assertEqual(desk.say("counts"), "1" if truth == "yes" else "0")
            self.assertEqual(desk.say("lets yes"), "yes 0" if truth == "yes" else "no")
            self.assertEqual(desk.say("lets no"), "yes 0" if truth == "no" else "no")
            self.refused(desk, NoTie, "tell 0-1 yes", "foe 0-1")
            self.refused(desk, NoBack, "back")
            self.refused(desk, NoText, "lets 0-1?(yes;no)", "lets ")


class Rows(Desks):
    def test_by_hand(self):
        desk = Desk(THREE, "joined")
        for row, answer in [
            ("frame", THREE), ("wish", "joined"), ("known", "..."), ("settled", "open"), ("left", "3"), ("best", "0-1"),
            ("counts", "0 0 3 1"), ("tell 0-2 yes", "ok"), ("known", ".+."), ("left", "2"), ("best", "0-1"),
            ("tell 0-1 no", "ok"), ("known", "-+."), ("left", "1"), ("best", "1-2"), ("plan", "1-2?(yes;no)"),
            ("lets 1-2?(yes;no)", "yes 1"), ("lets 0-1?(yes;1-2?(yes;no))", "yes 1"), ("lets 1-2?(no;yes)", "no"),
            ("lets 0-1?(yes;no)", "no"), ("lets yes", "no"), ("tell 1-2 no", "ok"), ("known", "-+-"), ("settled", "no"),
            ("left", "0"), ("best", "none"), ("plan", "no"), ("lets no", "yes 0"), ("lets 1-2?(yes;no)", "yes 0"),
            ("lets yes", "no"), ("back", "ok"), ("known", "-+."), ("settled", "open"), ("tell 1-2 yes", "ok"),
            ("settled", "yes"), ("plan", "yes"), ("back", "ok"), ("back", "ok"), ("back", "ok"), ("known", "..."),
            ("counts", "0 0 3 1"), ("frame", THREE), ("wish", "joined"),
        ]:
            self.assertEqual(desk.say(row), answer, row)
        self.refused(desk, NoBack, "back")

    def test_the_foe(self):
        desk = Desk("places 4: 0-1 0-2 0-3", "hub")
        self.assertEqual([desk.say("foe 0-2"), desk.say("foe 0-1")], ["yes", "yes"])
        self.assertEqual(desk.say("known"), "++.")
        self.assertEqual(desk.say("settled"), "open")
        self.assertEqual(desk.say("back"), "ok")
        self.assertEqual(desk.say("known"), ".+.")
        desk = Desk("places 4: 0-1 0-2 0-3", "many 1")
        self.assertEqual([desk.say("foe 0-2"), desk.say("foe 0-1")], ["no", "no"])
        self.assertEqual(desk.say("left"), "1")

    def test_many_deeds(self):
        chance = random.Random(280)
        for frame in FRAMES:
            wish = chance.choice([JOINED, ("ring",), some_wish(frame, chance, 2)])
            desk = self.desk(frame, wish)
            past = [nothing(frame)]
            for step in range(30):
                free = [tie for tie, truth in zip(frame[1], past[-1]) if truth is None]
                if chance.random() < 0.35 or not free:
                    if len(past) == 1:
                        self.refused(desk, NoBack, "back")
                    else:
                        self.assertEqual(desk.say("back"), "ok")
                        past.pop()
                else:
                    tie = chance.choice(free)
                    word = f"{tie[0]}-{tie[1]}"
                    if chance.random() < 0.5:
                        truth = chance.choice((True, False))
                        self.assertEqual(desk.say(f"tell {word} " + ("yes" if truth else "no")), "ok")
                    else:
                        truth = {"yes": True, "no": False}[desk.say("foe " + word)]
                        goal = with_tie(frame, past[-1], tie, truth)
                        self.assertGreaterEqual(least_by_hand(frame, wish, goal), least_by_hand(frame, wish, past[-1]) - 1)
                    past.append(with_tie(frame, past[-1], tie, truth))
                if step % 5 == 0:
                    self.stands(desk, frame, wish, past[-1])
            self.stands(desk, frame, wish, past[-1])

    def test_lets(self):
        chance = random.Random(281)
        told = []
        for frame in FRAMES:
            wish = chance.choice([JOINED, ("odd",), some_wish(frame, chance, 2)])
            desk = self.desk(frame, wish)
            known = nothing(frame)
            for tie in (None,) + frame[1]:
                if tie is not None:
                    truth = chance.choice((True, False))
                    desk.say(f"tell {tie[0]}-{tie[1]} " + ("yes" if truth else "no"))
                    known = with_tie(frame, known, tie, truth)
                order = tuple(chance.sample(frame[1], len(frame[1])))
                plans = [full_plan(frame, wish, nothing(frame), order), ("end", True), ("end", False)]
                for plan in plans + [some_plan(frame[1], chance) for _ in range(3)]:
                    right = lets_text(frame, wish, known, plan)
                    self.assertEqual(desk.say("lets " + plan_text(plan)), right, (frame, wish, known, plan))
                    told.append(right[:3])
        self.assertGreater(told.count("no"), 50)
        self.assertGreater(told.count("yes"), 50)

    def test_a_plan_that_asks_known_ties(self):
        desk = Desk(THREE, "joined")
        desk.say("tell 0-1 yes")
        self.assertEqual(desk.say("lets 0-1?(0-2?(yes;1-2?(yes;no));no)"), "yes 2")
        self.assertEqual(desk.say("lets 0-2?(0-1?(yes;no);1-2?(0-1?(yes;no);no))"), "yes 2")
        self.assertEqual(desk.say("lets 0-1?(no;0-2?(yes;1-2?(yes;no)))"), "no")

    def test_numbers_of_two_figures(self):
        self.assertEqual(Desk("places 7: 0-1 0-6 1-2 2-3 3-4 4-5 5-6", "many 3").say("counts"), "0 0 0 35 35 21 7 1")
        wish = "ends 0 99"
        self.assertEqual(Desk(THREE, wish).say("wish"), wish)


class Refused(Desks):
    def desks(self):
        """Desks with nothing, something and all known."""
        for deeds in [(), ("0-1 yes",), ("0-1 yes", "0-2 no"), ("0-1 no", "0-2 no", "1-2 yes")]:
            desk = Desk(THREE, "joined")
            for deed in deeds:
                desk.say("tell " + deed)
            yield desk, [deed.split(" ")[0] for deed in deeds]

    def test_no_text(self):
        desk = Desk(THREE, "joined")
        for at, thing in enumerate(NO_TEXTS):
            with self.subTest(at=at), at_once():
                self.refused(desk, NoRow, thing)

    def test_other_first_words(self):
        for desk, _ in self.desks():
            self.refused(desk, NoRow, "", " ", "  ", "\n", "x", "Tell 0-1 yes", "TELL 0-1 yes", "tells 0-1 yes", "say", "ok",
                         "\ntell 0-1 yes", "tell\n 0-1 yes", "tell\n0-1\nyes", "back\n", "\nback", "known\n", "left\r",
                         "foe\n 0-1", "lets\n yes", "lets\nyes", "Lets yes", "let yes", "letsyes", "lets(yes)", "plan\n",
                         " lets yes", " back", " tell 0-1 yes", " known", "yes", "no", "0-1", "open", "none", "game",
                         "plans", "count", "best.", "best?", "settle", "frames", "wishes", "lefts", "x 0-1", "x 0-1 yes")

    def test_how_many_words(self):
        for desk, _ in self.desks():
            for word in SINGLE_ROWS:
                self.refused(desk, NoRow, word + " ", " " + word, word + " x", word + "  ", word + " " + word, word + " 0-1",
                             word + " \n", word + "\n", word + " 0-1 yes", word + " yes")
            self.refused(desk, NoRow, "tell", "tell ", "tell 0-1", "tell 0-1\nyes", "tell 0-1 yes no", "tell 0-1 yes ",
                         "tell  0-1 yes", "tell 0-1  yes", " tell 0-1 yes", "tell 0-1 yes 0-2 no", "tell   ", "tell 1-0",
                         "tell x y z", "tell 0 1 yes", "tell 0-1yes", "tell yes")
            self.refused(desk, NoRow, "foe", "foe 0-1 yes", "foe 0-1 ", "foe  0-1", "foe  ", "foe 0 1", "foe0-1", "foe 1-0 x")
            self.refused(desk, NoRow, "lets", "lets\n", "lets-yes", "letsyes", "lets;yes")

    def test_ill_written_ties(self):
        for desk, _ in self.desks():
            for word in ILL_WRITTEN_TIES:
                self.refused(desk, NoTie, f"tell {word} yes", f"tell {word} no", f"foe {word}")

    def test_a_word_without_signs(self):
        for desk, _ in self.desks():
            self.refused(desk, NoTie, "tell  yes", "tell  no", "tell  ", "foe ")
            # Where the tie is written right, the answer is looked at next.
            self.refused(desk, NoTruth, "tell 0-1 ", "tell 1-2 ", "tell 0-9 ")

    def test_no_answer(self):
        for desk, _ in self.desks():
            for answer in NO_ANSWERS:
                for tie in ["0-1", "0-2", "1-2"] + OTHER_TIES:
                    self.refused(desk, NoTruth, f"tell {tie} {answer}")

    def test_a_tie_ahead_of_an_answer(self):
        for desk, _ in self.desks():
            for word in ILL_WRITTEN_TIES:
                for answer in ("", "x", "Yes", "yes\n"):
                    self.refused(desk, NoTie, f"tell {word} {answer}")

    def test_ties_that_the_frame_has_not(self):
        for desk, _ in self.desks():
            for tie in OTHER_TIES:
                self.refused(desk, NoTie, f"tell {tie} yes", f"tell {tie} no", f"foe {tie}")
        desk = Desk("places 3: 0-1 1-2", "joined")
        self.refused(desk, NoTie, "tell 0-2 yes", "foe 0-2")
        self.refused(desk, NoTruth, "tell 0-2 maybe")

    def test_ties_that_are_known(self):
        for desk, known in self.desks():
            for tie in known:
                self.refused(desk, NoTie, f"tell {tie} yes", f"tell {tie} no", f"foe {tie}")
                self.refused(desk, NoTruth, f"tell {tie} maybe", f"tell {tie} ")

    def test_no_plan(self):
        for desk, _ in self.desks():
            self.refused(desk, NoText, "lets ", "lets  ", "lets  yes", "lets yes ", "lets yes\n", "lets \nyes", "lets Yes",
                         "lets x", "lets 0-1", "lets 0-1?", "lets 0-1?(yes;no) ", "lets 0-1? (yes;no)", "lets 0-1?(yes; no)",
                         "lets 1-0?(yes;no)", "lets 0-3?(yes;no)", "lets 0-1?(0-1?(yes;no);no)", "lets 0-1?(yes;no",
                         "lets 0-1?(yes;no))", "lets (yes)", "lets yes no", "lets 0-1 yes", "lets lets yes", "lets \n",
                         "lets " + "0-1?(" * 30, "lets " + "x" * 1995, "lets ...", "lets joined")

    def test_nothing_to_take_back(self):
        for desk, known in self.desks():
            for _ in known:
                self.assertEqual(desk.say("back"), "ok")
            self.refused(desk, NoBack, "back", "back")
            self.stands(desk, ALL_THREE, JOINED, (None, None, None))

    def test_long_rows(self):
        desk = Desk(THREE, "joined")
        with at_once(10):
            self.refused(desk, NoRow, " " * 2000, "back " * 400, "tell " * 400, "x" * 2000, "lets" * 500, "tell 0-1 yes " * 150,
                         "\n" * 2000)
            self.refused(desk, NoTie, "foe " + "0" * 1996, "foe 0-" + "1" * 1990, "foe " + "-" * 1990, "foe " + "(" * 30)
            self.refused(desk, NoTruth, "tell 0-1 " + "yes" * 600)

    def test_refused_between_deeds(self):
        desk = Desk(THREE, "joined")
        wrong = ["tell 0-1 maybe", "tell 0-3 yes", "tell 1-0 no", "foe 0-9", "lets", "lets ", "x", None, "back back"]
        for deed, known in [("tell 0-1 yes", "+.."), ("tell 1-2 no", "+.-"), ("back", "+.."), ("tell 0-2 yes", "++.")]:
            for row in wrong:
                self.assertRaises(AskError, desk.say, row)
            self.assertEqual(desk.say(deed), "ok")
            self.assertEqual(desk.say("known"), known)
        self.assertEqual([desk.say("back"), desk.say("back")], ["ok", "ok"])
        self.refused(desk, NoBack, "back")


class EachItsOwnWay(Desks):
    def test_two_desks_of_the_same_texts(self):
        one, other = Desk(THREE, "joined"), Desk(THREE, "joined")
        one.say("tell 0-1 yes")
        self.stands(other, ALL_THREE, JOINED, (None, None, None))
        other.say("tell 0-1 no")
        other.say("foe 0-2")
        self.stands(one, ALL_THREE, JOINED, (True, None, None))
        self.assertEqual(one.say("back"), "ok")
        self.refused(one, NoBack, "back")
        self.assertEqual(other.say("back"), "ok")
        self.stands(other, ALL_THREE, JOINED, (False, None, None))

    def test_asking_changes_nothing(self):
        desk = self.desk(ALL_FOUR, ("ring",))
        desk.say("tell 0-3 no")
        known = with_tie(ALL_FOUR, nothing(ALL_FOUR), (0, 3), False)
        for _ in range(3):
            self.stands(desk, ALL_FOUR, ("ring",), known)

    def test_what_is_handed_in_stays(self):
        desk = Desk(THREE, "joined")
        wrong = ["tell", ["0-1"], "yes"]
        self.refused(desk, NoRow, wrong)
        self.assertEqual(kinds_of(wrong), kinds_of(["tell", ["0-1"], "yes"]))


class GoodTime(Desks):
    def test_seven_ties(self):
        wish = nested(("ring",), lambda inner: ("one", inner, ("sides",)), 11)
        with at_once(10):
            for frame in (RING_OF_SEVEN, STAR_OF_EIGHT):
                desk = self.desk(frame, wish)
                for tie in frame[1]:
                    for row in ("known", "settled", "left", "best", "plan", "counts"):
                        desk.say(row)
                    desk.say("lets " + desk.say("plan"))
                    desk.say(f"foe {tie[0]}-{tie[1]}")
                self.assertNotEqual(desk.say("settled"), "open")


class OneTie(Desks):
    def test_by_hand(self):
        desk = self.desk(ONE_TIE, ("tie", 0, 1))
        self.assertEqual([desk.say(row) for row in ("plan", "left", "best", "counts")], ["0-1?(yes;no)", "1", "0-1", "0 1"])
        self.assertEqual(desk.say("tell 0-1 no"), "ok")
        self.assertEqual([desk.say(row) for row in ("plan", "left", "best", "settled")], ["no", "0", "none", "no"])
        self.refused(desk, NoTie, "tell 0-1 yes", "foe 0-1")


if __name__ == "__main__":
    unittest.main()
