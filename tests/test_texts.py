"""Point 27: frames, wishes, plans and what is known, written and read; and that what is written reads back."""

import random
import re
import unittest

from allasked.errors import AskError, NoText
from allasked.frames import is_frame
from allasked.known import is_known
from allasked.plans import is_plan
from allasked.reader import read_frame, read_known, read_plan, read_wish
from allasked.texts import frame_text, known_text, plan_text, wish_text
from allasked.wishes import is_wish
from tests.samples import ALL_FOUR, ALL_THREE, FRAMES, NO_TIES, ONE_PLACE, ONE_TIE, RING_OF_SEVEN, ROW_OF_EIGHT
from tests.samples import SINGLES, all_known, all_plans, at_once, full_plan, kinds_of, nested, nothing, simple_wishes
from tests.samples import some_known, some_plan, some_wish, strange_things

YES = ("end", True)
NO = ("end", False)
A, B, C = ALL_THREE[1]
PLAIN_SIGNS = [chr(number) for number in range(32, 127)] + ["\n", "\r"]
NO_TEXTS = [thing for thing in strange_things() if not isinstance(thing, str)] + [b"yes", b"", ["yes"], ("yes",), 3]

FRAME_TEXTS = [
    (ONE_PLACE, "places 1:"), ((8, ()), "places 8:"), (ONE_TIE, "places 2: 0-1"), ((3, ((0, 2),)), "places 3: 0-2"),
    (ALL_THREE, "places 3: 0-1 0-2 1-2"), (ALL_FOUR, "places 4: 0-1 0-2 0-3 1-2 1-3 2-3"),
    (ROW_OF_EIGHT, "places 8: 0-1 1-2 2-3 3-4 4-5 5-6 6-7"), ((8, ((0, 7), (6, 7))), "places 8: 0-7 6-7"),
]
WISH_TEXTS = [
    (("tie", 0, 1), "tie 0-1"), (("tie", 1, 2), "tie 1-2"), (("many", 0), "many 0"), (("many", 3), "many 3"),
    (("many", 10), "many 10"), (("many", 99), "many 99"), (("odd",), "odd"), (("joined",), "joined"),
    (("way", 0, 2), "way 0-2"), (("ring",), "ring"), (("three",), "three"), (("hub",), "hub"), (("lone",), "lone"),
    (("sides",), "sides"), (("ends", 0, 0), "ends 0 0"), (("ends", 1, 2), "ends 1 2"), (("ends", 2, 99), "ends 2 99"),
    (("told", (True, False, False, True, False, True, True, True)), "told +--+-+++"), (("not", ("odd",)), "not(odd)"),
    (("missing", ("tie", 0, 2)), "missing(tie 0-2)"), (("both", ("odd",), ("hub",)), "both(odd;hub)"),
    (("either", ("many", 2), ("way", 0, 1)), "either(many 2;way 0-1)"), (("one", ("ring",), ("ring",)), "one(ring;ring)"),
    (("not", ("not", ("not", ("lone",)))), "not(not(not(lone)))"),
    (("both", ("not", ("odd",)), ("one", ("ends", 0, 1), ("missing", ("many", 2)))),
     "both(not(odd);one(ends 0 1;missing(many 2)))"),
]
PLAN_TEXTS = [
    (YES, "yes"), (NO, "no"), (("ask", A, YES, NO), "0-1?(yes;no)"), (("ask", C, NO, NO), "1-2?(no;no)"),
    (("ask", B, ("ask", A, YES, NO), YES), "0-2?(0-1?(yes;no);yes)"),
    (("ask", A, ("ask", B, YES, ("ask", C, YES, NO)), ("ask", B, ("ask", C, YES, NO), NO)),
     "0-1?(0-2?(yes;1-2?(yes;no));0-2?(1-2?(yes;no);no))"),
]
KNOWN_TEXTS = [((None, None, None), "..."), ((True, False, None), "+-."), ((True, True, True), "+++"),
               ((False, None, False), "-.-")]


class Reading(unittest.TestCase):
    def refused(self, read, *texts):
        """Each is refused with NoText, and with just that; read takes nothing but the text."""
        for text in texts:
            try:
                told = read(text)
            except NoText as error:
                self.assertIs(type(error), NoText)
                self.assertIsInstance(error, AskError)
            else:
                self.fail((text, told))

    def reads(self, read, written, right, text):
        """What is written as told, sign by sign, reads back as the very thing."""
        self.assertEqual(written(right), text)
        self.assertIs(type(written(right)), str)
        self.assertEqual(kinds_of(read(text)), kinds_of(right), text)

    def read_back(self, read, written, right):
        """What is written reads back."""
        self.assertEqual(kinds_of(read(written(right))), kinds_of(right))

    def changed_signs(self, read, written, is_right, text, chance, count):
        """A text with a sign more, fewer or another one is refused, or is just how some thing is written."""
        for _ in range(count):
            made = text
            for _ in range(chance.choice((1, 1, 2))):
                at = chance.randrange(len(made) + 1)
                signs = chance.choice(["", chance.choice(PLAIN_SIGNS), chance.choice(" 0123-+.;:()?\n"), made[at:at + 1]])
                made = made[:at] + signs + made[at + chance.choice((0, 1)):]
            try:
                told = read(made)
            except NoText:
                continue
            self.assertIs(is_right(told), True, made)
            self.assertEqual(written(told), made)


class Frames(Reading):
    def test_by_hand(self):
        for frame, text in FRAME_TEXTS:
            self.reads(read_frame, frame_text, frame, text)

    def test_each_frame(self):
        for frame in FRAMES:
            self.read_back(read_frame, frame_text, frame)
            self.assertEqual(frame_text(frame), f"places {frame[0]}:" + "".join(f" {a}-{b}" for a, b in frame[1]))

    def test_no_text(self):
        self.refused(read_frame, *NO_TEXTS, *[frame for frame, text in FRAME_TEXTS])

    def test_words_blanks_and_colons(self):
        self.refused(read_frame, "", " ", "places", "places ", "places 3", "places 3 :", "places:", "places :", "3:", " 3:",
                     "3: 0-1", "place 3:", "placess 3:", "Places 3:", "PLACES 3:", "places  3:", " places 3:", "places 3: ",
                     "places 3:\n", "\nplaces 3:", "places\n3:", "places 3:\n0-1", "places 3: 0-1\n", "places 3: 0-1 ",
                     "places 3:  0-1", "places 3: 0-1  0-2", "places 3:0-1", "places 3:0-1 0-2", "places 3 : 0-1",
                     "places 3 0-1", "places 3:: 0-1", "places 3: :", "places 3:: ", ":places 3", "places 3; 0-1",
                     "places 3: 0-1,0-2", "places 3: 0-1; 0-2", "places 3: (0-1)", "places 3: 0-1 0-2:", "places 3: 0 -1",
                     "places 3: 0- 1", "places 3: 0 1", "places 3: 01", "places 3: 0", "places 3: -", "places 3: 0-",
                     "places 3: -1", "places 3: 0--1", "places 3: 0-1-2", "places 3: tie 0-1", "places 3: yes", "(places 3:)",
                     "places 3: 0-1\r", "places 3:\t0-1", "places three: 0-1", "places 3 4: 0-1", "places -3:", "places 3:.")

    def test_numbers(self):
        for many in ["0", "9", "10", "99", "100", "03", "00", "+3", "-3", "3.0", "3_", "_3", "0_3", "3 ", " 3", "1e0", "\n3",
                     "3\n", "iii", "", "003", "3" * 100, "\u0663", "\u00b3"]:
            self.refused(read_frame, f"places {many}:", f"places {many}: 0-1")
        for tie in ["0-3", "0-8", "3-4", "0-10", "0-99", "0-100", "00-1", "0-01", "0-001", "+0-1", "0-+1", "0--1", "-0-1",
                    "0_0-1", "0-1_", "0-_1", "0-1_0", "1-0", "2-1", "0-0", "2-2", "a-b", "0-b", "\u0660-1", "0-\u00b9",
                    "0-" + "1" * 100]:
            self.refused(read_frame, f"places 3: {tie}", f"places 3: 0-1 {tie}", f"places 3: {tie} 1-2")

    def test_ties_twice_out_of_order_and_eight(self):
        self.refused(read_frame, "places 3: 0-1 0-1", "places 3: 0-2 0-1", "places 3: 1-2 0-2", "places 3: 0-1 1-2 0-2",
                     "places 3: 0-1 0-2 0-2", "places 3: 0-1 1-0", "places 1: 0-0", "places 1: 0-1", "places 2: 0-2",
                     "places 5: 0-1 0-2 0-3 0-4 1-2 1-3 1-4 2-3", "places 8: 0-1 0-2 0-3 0-4 0-5 0-6 0-7 1-2")
        self.assertEqual(read_frame("places 5: 0-1 0-2 0-3 0-4 1-2 1-3 1-4")[0], 5)

    def test_changed_signs(self):
        chance = random.Random(27)
        for frame in FRAMES:
            self.changed_signs(read_frame, frame_text, is_frame, frame_text(frame), chance, 150)

    def test_long_texts(self):
        with at_once(10):
            self.refused(read_frame, "places 3:" + " 0-1" * 498, "places 3:" + " " * 1991, "places " + "3" * 1993, "p" * 2000,
                         "places 3: " + "-" * 1990, "places 3: 0-" + "1" * 1988, ":" * 2000, " " * 2000, "(" * 30 + ")" * 30)


class Wishes(Reading):
    def setUp(self):
        self.read = lambda text: read_wish(ALL_THREE, text)

    def test_by_hand(self):
        for wish, text in WISH_TEXTS:
            self.reads(self.read, wish_text, wish, text)

    def test_each_frame(self):
        chance = random.Random(270)
        for frame in FRAMES:
            for wish in simple_wishes(frame, chance) + [some_wish(frame, chance, 3) for _ in range(30)]:
                if is_wish(frame, wish):
                    self.read_back(lambda text: read_wish(frame, text), wish_text, wish)

    def test_told_of_all_webs(self):
        for frame in (ONE_PLACE, NO_TIES):
            for truth, sign in ((True, "+"), (False, "-")):
                self.reads(lambda text: read_wish(frame, text), wish_text, ("told", (truth,)), "told " + sign)
            self.refused(lambda text: read_wish(frame, text), "told ", "told", "told ++", "told +-", "told .", "tie 0-1")
        chance = random.Random(271)
        table = tuple(chance.random() < 0.5 for _ in range(128))
        signs = "".join("+" if truth else "-" for truth in table)
        read = lambda text: read_wish(RING_OF_SEVEN, text)
        self.reads(read, wish_text, ("told", table), "told " + signs)
        self.reads(read, wish_text, ("not", ("told", table)), "not(told " + signs + ")")
        self.refused(read, "told " + signs[1:], "told " + signs + "+", "told " + signs[:-1] + ".", "told " + signs[:-1] + " -",
                     "told " + signs[:8], "told", "told ", "told  " + signs, "told " + signs + " ", "told" + signs,
                     "told " + signs[:64] + " " + signs[64:], "told " + signs[:64] + "\n" + signs[64:])

    def test_truths_too_few_or_too_many_or_other_signs(self):
        self.refused(self.read, "told", "told ", "told +", "told +-+-+-+", "told +-+-+-+-+", "told ........", "told +-+-+-+.",
                     "told 10101010", "told ++++ ----", "told +-+-+-+ -", "told  +-+-+-+-", "told +-+-+-+- ", "told+-+-+-+-",
                     "told yesyesno", "told +-+-+-+;", "told (+-+-+-+-)", "told +-+-+-+\n", "told:+-+-+-+-")

    def test_no_text(self):
        self.refused(self.read, *NO_TEXTS, *[wish for wish, text in WISH_TEXTS])

    def test_blanks_line_ends_and_capitals(self):
        for wish, text in WISH_TEXTS:
            self.refused(self.read, " " + text, text + " ", text + "\n", "\n" + text, text + "\r", text.upper(),
                         text.capitalize(), "(" + text + ")", text + ";", ";" + text, text + ")", "(" + text, text + ";odd",
                         text + text, text + " " + text, text + "(", text + "()", text + "(odd)", text + ":", text + ".")
            for sign in " (;)":
                for at in [at for at, other in enumerate(text) if other == sign]:
                    self.refused(self.read, text[:at] + " " + text[at:], text[:at + 1] + " " + text[at + 1:],
                                 text[:at] + text[at + 1:], text[:at] + sign + text[at:], text[:at] + "\n" + text[at + 1:],
                                 text[:at] + "\n" + text[at:], text[:at + 1] + "\n" + text[at + 1:])

    def test_words(self):
        for word in SINGLES + ["tie", "many", "way", "ends", "told", "not", "missing", "both", "either", "one"]:
            if word not in SINGLES:
                self.refused(self.read, word)
            if word in SINGLES:
                self.refused(self.read, word + " 0", word + " 3", word + " 0-1", word + " 0 1")
            self.refused(self.read, word + " ", word + "()", word + "(;)", word[:-1], word + "s", word + " odd")
        self.refused(self.read, "", " ", "yes", "no", "places 3:", "...", "0", "0-1", "and", "or", "end", "ask", "alone")

    def test_numbers(self):
        for number in ["100", "999", "00", "01", "03", "099", "-1", "-0", "+3", "3_", "1_0", "_1", "", " 3", "3 ", "3.0", "1e1",
                       "0x1", "three", "True", "\n3", "3\n", "1" * 100, "\u0663", "\u00b3"]:
            self.refused(self.read, f"many {number}", f"ends 0 {number}", f"ends {number} 1", f"ends {number}",
                         f"not(many {number})", f"both(odd;many {number})")
        for place in ["3", "4", "8", "9", "10", "99", "a", "0-1"]:
            self.refused(self.read, f"ends {place} 1", f"ends {place} {place}")
        self.refused(self.read, "many 1 2", "many", "ends 1", "ends 0 1 2", "ends 0-1", "ends 0-1 1", "ends 0;1", "many 0-1",
                     "many +", "odd 1", "ring 0", "many  3", "ends 1  2", "ends  1 2")

    def test_ties_and_ways(self):
        for word in ("tie", "way"):
            for pair in ["1-0", "2-0", "2-1", "0-0", "2-2", "0-3", "3-4", "0-8", "0-10", "0-99", "0-100", "00-1", "0-01", "0 1",
                         "0 -1", "0- 1", "0--1", "+0-1", "0-+1", "-0-1", "0-1-2", "01", "0", "0-", "-1", "-", "", "0-1 ",
                         "0-1 1-2", "0;1", "(0-1)", "0,1", "0_0-1", "0-1_", "a-b", "0-1\n", "0\n-1", "0-\u0661"]:
                self.refused(self.read, f"{word} {pair}", f"not({word} {pair})")
            self.refused(self.read, word + "0-1", word + "  0-1", word + "\n0-1", word + ":0-1", word + "(0-1)")

    def test_ties_that_the_frame_has_not(self):
        frame = (4, ((0, 1), (1, 2)))
        read = lambda text: read_wish(frame, text)
        self.assertEqual(read("tie 0-1"), ("tie", 0, 1))
        self.assertEqual(read("way 0-3"), ("way", 0, 3))
        self.refused(read, "tie 0-2", "tie 2-3", "tie 0-3", "way 0-4", "not(tie 0-2)", "both(tie 0-1;tie 0-2)", "ends 4 0")
        self.refused(lambda text: read_wish(ONE_PLACE, text), "tie 0-1", "way 0-1", "way 0-0", "ends 1 0")
        self.assertEqual(read_wish(ONE_PLACE, "ends 0 0"), ("ends", 0, 0))

    def test_brackets(self):
        self.refused(self.read, "(", ")", "()", "(odd)", "not", "not(", "not()", "not(odd", "not odd)", "not odd", "notodd",
                     "not(odd))", "not((odd))", "(not(odd))", "not(odd)(odd)", "not(odd;hub)", "not(odd)hub", "not(;odd)",
                     "not(odd;)", "not(odd)odd", "not(not(odd)", "not(not odd))", "both(odd)", "both(odd;)", "both(;odd)",
                     "both(;)", "both(odd;hub;ring)", "both(odd;hub", "both odd;hub)", "both(odd,hub)", "both(odd hub)",
                     "both(odd)(hub)", "both(odd);hub", "both(odd;;hub)", "both((odd);hub)", "both(odd;(hub))", "odd;hub",
                     "either(odd)", "one(odd)", "one(odd;hub;)", "missing(odd;hub)", "missing", "odd()", "odd(hub)", "odd(",
                     "many(3)", "tie(0-1)", "told(+-+-+-+-)", "hub(odd;ring)", "both[odd;hub]", "both{odd;hub}", "not<odd>",
                     "and(odd;hub)", "xnot(odd)", "no(odd)", "yes(odd)", "0-1?(yes;no)", " not(odd)", "not(odd) ", "not (odd)",
                     "not( odd)", "not(odd )", "both(odd ;hub)", "both(odd; hub)", "both (odd;hub)", "both(odd;hub )")

    def test_parts(self):
        for steps in (0, 1, 10, 23):
            self.reads(self.read, wish_text, nested(("hub",), lambda wish: ("not", wish), steps),
                       "not(" * steps + "hub" + ")" * steps)
        self.refused(self.read, "not(" * 24 + "hub" + ")" * 24, "missing(" * 24 + "odd" + ")" * 24)
        right = nested(("hub",), lambda wish: ("one", wish, ("odd",)), 11)
        self.reads(self.read, wish_text, right, "one(" * 11 + "hub" + ";odd)" * 11)
        self.reads(self.read, wish_text, ("not", right), "not(" + "one(" * 11 + "hub" + ";odd)" * 11 + ")")
        self.refused(self.read, "not(not(" + "one(" * 11 + "hub" + ";odd)" * 11 + "))", "one(" * 12 + "hub" + ";odd)" * 12)
        wide = "both(odd;" * 11 + "hub" + ")" * 11
        self.assertEqual(wish_text(self.read(wide)), wide)
        self.refused(self.read, "both(odd;" * 12 + "hub" + ")" * 12)

    def test_thirty_brackets_open_at_once(self):
        for steps in (25, 29, 30):
            self.refused(self.read, "not(" * steps + "odd" + ")" * steps, "(" * steps, "(" * steps + "odd" + ")" * steps,
                         "not(" * steps, "both(" * steps, "not(" * steps + "odd", "both(odd;" * steps + "odd" + ")" * steps,
                         "both(" * steps + "odd" + ";odd)" * steps)

    def test_long_texts(self):
        with at_once(10):
            self.refused(self.read, "a" * 2000, " " * 2000, ";" * 2000, ")" * 2000, "(" * 30 + ")" * 1970, "told " + "+" * 1995,
                         "many " + "1" * 1995, "many " + "0" * 1995, "odd;" * 500, "not(odd)" * 250, "odd " * 500,
                         "tie 0-" + "1" * 1994, "tie " + "-" * 1996, "ends " + "1 " * 997, "both(odd;odd);" * 142, "\n" * 2000,
                         "not(" + "odd;" * 400 + ")", "both(" + "not(odd);" * 200 + ")", "one(hub;" * 29 + "x" * 1700)
            wish = nested(("told", (True, False) * 64), lambda inner: ("one", inner, ("told", (False, True) * 64)), 11)
            text = wish_text(wish)
            self.assertEqual(len(text), 12 * 133 + 11 * 6)
            self.assertEqual(kinds_of(read_wish(RING_OF_SEVEN, text)), kinds_of(wish))

    def test_far_beyond_the_limits(self):
        with at_once(10):
            self.refused(self.read, "not(" * 5000, "(" * 20000, "both(" * 5000, "not(" * 5000 + "odd" + ")" * 5000)

    def test_changed_signs(self):
        chance = random.Random(272)
        for frame in FRAMES:
            for wish in [some_wish(frame, chance, 1) for _ in range(6)]:
                self.changed_signs(lambda text: read_wish(frame, text), wish_text, lambda told: is_wish(frame, told),
                                   wish_text(wish), chance, 60)
        for wish, text in WISH_TEXTS:
            self.changed_signs(self.read, wish_text, lambda told: is_wish(ALL_THREE, told), text, chance, 100)


class Plans(Reading):
    def setUp(self):
        self.read = lambda text: read_plan(ALL_THREE, text)

    def test_by_hand(self):
        for plan, text in PLAN_TEXTS:
            self.reads(self.read, plan_text, plan, text)

    def test_all_plans_of_two_ties(self):
        frame = (3, ((0, 1), (1, 2)))
        for plan in all_plans(frame[1]):
            self.read_back(lambda text: read_plan(frame, text), plan_text, plan)

    def test_each_frame(self):
        chance = random.Random(273)
        for frame in FRAMES:
            read = lambda text: read_plan(frame, text)
            for plan in [YES, NO, full_plan(frame, ("odd",), nothing(frame))] + [some_plan(frame[1], chance) for _ in range(9)]:
                self.read_back(read, plan_text, plan)
                self.assertEqual(set(re.sub(r"\d-\d\?|yes|no", "", plan_text(plan))) - set("(;)"), set())
            self.refused(read, "0-9?(yes;no)", "7-8?(yes;no)")

    def test_no_text(self):
        self.refused(self.read, *NO_TEXTS, *[plan for plan, text in PLAN_TEXTS])

    def test_blanks_line_ends_and_capitals(self):
        for plan, text in PLAN_TEXTS:
            self.refused(self.read, " " + text, text + " ", text + "\n", "\n" + text, text + "\r", text.upper(),
                         "(" + text + ")", text + ";", ";" + text, text + ")", "(" + text, text + text, text + "?",
                         text.replace("yes", "Yes").replace("no", "No"), text + "()", text + ".", text + ";no")
            for sign in "?(;)-":
                for at in [at for at, other in enumerate(text) if other == sign]:
                    self.refused(self.read, text[:at] + " " + text[at:], text[:at + 1] + " " + text[at + 1:],
                                 text[:at] + text[at + 1:], text[:at] + sign + text[at:], text[:at] + "\n" + text[at:],
                                 text[:at + 1] + "\n" + text[at + 1:], text[:at] + ":" + text[at + 1:])

    def test_forms(self):
        self.refused(self.read, "", " ", "?", "(", ")", ";", "y", "n", "ye", "yess", "none", "noo", "end", "True", "+", "-", "1",
                     "0-1", "0-1?", "0-1?yes", "0-1?yes;no", "0-1?(yes)", "0-1?(yes;no;no)", "0-1?(yes;)", "0-1?(;no)", "0-1?(;)",
                     "0-1?()", "0-1(yes;no)", "0-1??(yes;no)", "?(yes;no)", "(yes;no)", "0-1?(yes;no", "0-1?yes;no)", "yes;no",
                     "0-1?((yes;no)", "0-1?(yes;no))", "0-1?((yes);no)", "0-1?(yes,no)", "0-1?(yes no)", "0-1?[yes;no]", "yes?",
                     "yes?(yes;no)", "yes(yes;no)", "no(yes;no)", "tie 0-1?(yes;no)", "odd", "odd?(yes;no)", "0-1?(odd;no)",
                     "0-1?(0-2;no)", "0-1?(yes;no)yes", "0-1?(yes;no)(yes;no)", "0?(yes;no)", "01?(yes;no)", "0 1?(yes;no)")

    def test_ties(self):
        for tie in ["1-0", "2-1", "0-0", "0-3", "3-4", "0-10", "0-99", "0-100", "00-1", "0-01", "0--1", "+0-1", "0-+1", "-0-1",
                    "0-1-2", "0-1_", "0_0-1", "a-b", "0-", "-1", "-", "", "0-1 ", " 0-1", "0\n-1", "0-\u0661"]:
            self.refused(self.read, tie + "?(yes;no)", f"1-2?({tie}?(yes;no);no)", f"1-2?(no;{tie}?(yes;no))")
        frame = (3, (A, C))
        self.refused(lambda text: read_plan(frame, text), "0-2?(yes;no)", "0-1?(0-2?(yes;no);no)")
        for frame in (ONE_PLACE, NO_TIES):
            self.assertEqual(read_plan(frame, "no"), NO)
            self.refused(lambda text: read_plan(frame, text), "0-1?(yes;no)")

    def test_a_tie_twice_on_one_way(self):
        again = "0-1?(yes;no)"
        self.refused(self.read, f"0-1?({again};no)", f"0-1?(yes;{again})", f"0-1?(0-2?({again};no);no)",
                     f"0-1?(0-2?(yes;{again});no)", f"0-1?(no;0-2?({again};no))", f"0-1?(no;0-2?(1-2?(no;{again});no))")
        self.assertEqual(self.read(f"0-2?({again};{again})"), ("ask", B, ("ask", A, YES, NO), ("ask", A, YES, NO)))

    def test_thirty_brackets_open_at_once(self):
        for steps in (8, 29, 30):
            self.refused(self.read, "0-1?(" * steps + "yes" + ";no)" * steps, "(" * steps, "0-1?(" * steps,
                         "0-1?(yes;" * steps + "no" + ")" * steps, "(" * steps + "yes" + ")" * steps)
        with at_once(10):
            self.refused(self.read, "0-1?(" * 4000, "(" * 20000)

    def test_long_texts(self):
        with at_once(10):
            plan = full_plan(ROW_OF_EIGHT, ("odd",), nothing(ROW_OF_EIGHT))
            text = plan_text(plan)
            self.assertGreater(len(text), 1200)
            self.assertEqual(kinds_of(read_plan(ROW_OF_EIGHT, text)), kinds_of(plan))
            self.refused(lambda text: read_plan(ROW_OF_EIGHT, text), text[:-1], text + ")", text[:-2] + ")", text[1:])
            self.refused(self.read, "y" * 2000, "yes" * 600, "yes;" * 500, "0-1?(yes;no)" * 150, "0-1?(" + "yes;" * 490 + "no)",
                         " " * 2000, "\n" * 2000, ")" * 2000, "?" * 2000, "0-" + "1" * 1990 + "?(yes;no)", "0-1" * 666)

    def test_changed_signs(self):
        chance = random.Random(274)
        for frame in FRAMES:
            for plan in [some_plan(frame[1][:3], chance) for _ in range(5)]:
                self.changed_signs(lambda text: read_plan(frame, text), plan_text,
                                   lambda told: is_plan(frame, nothing(frame), told), plan_text(plan), chance, 60)


class Known(Reading):
    def setUp(self):
        self.read = lambda text: read_known(ALL_THREE, text)

    def test_by_hand(self):
        for known, text in KNOWN_TEXTS:
            self.reads(self.read, known_text, known, text)

    def test_all_that_may_be_known(self):
        for frame in (ONE_TIE, ALL_THREE, (4, ((0, 1), (0, 3), (1, 2), (2, 3)))):
            for known in all_known(frame):
                text = "".join({True: "+", False: "-", None: "."}[truth] for truth in known)
                self.reads(lambda text: read_known(frame, text), known_text, known, text)

    def test_each_frame(self):
        chance = random.Random(275)
        for frame in FRAMES:
            for known in [nothing(frame)] + some_known(frame, chance, 5):
                self.read_back(lambda text: read_known(frame, text), known_text, known)

    def test_without_ties(self):
        for frame in (ONE_PLACE, NO_TIES):
            self.reads(lambda text: read_known(frame, text), known_text, (), "")
            self.refused(lambda text: read_known(frame, text), " ", ".", "+", "-", "\n", None, (), [], 0, False)

    def test_refused(self):
        self.refused(self.read, *NO_TEXTS, "", ".", "..", "....", "+-", "+-.+", " ...", "... ", ". .", "...\n", "\n...", ".\n.",
                     "+-\n", "+- ", " +-", "+ -", "+-?", "+-0", "101", "TFN", "yes", "no", "+-,", "+-;", "(+-)", "+-_", "+-=",
                     "\u2212\u2212\u2212", "+" * 2000, "." * 2000, " " * 3, "\n\n\n", "aaa")
        self.refused(lambda text: read_known(ONE_TIE, text), "", "..", "\n", " ", "x", "0", "1", None, True)

    def test_changed_signs(self):
        chance = random.Random(276)
        for frame in FRAMES:
            for known in some_known(frame, chance, 3):
                self.changed_signs(lambda text: read_known(frame, text), known_text, lambda told: is_known(frame, told),
                                   known_text(known), chance, 60)


class Kept(Reading):
    def test_each_answer_is_the_same_again(self):
        for _ in range(3):
            for frame, text in FRAME_TEXTS:
                self.reads(read_frame, frame_text, frame, text)
            for wish, text in WISH_TEXTS:
                self.reads(lambda text: read_wish(ALL_THREE, text), wish_text, wish, text)
            for plan, text in PLAN_TEXTS:
                self.reads(lambda text: read_plan(ALL_THREE, text), plan_text, plan, text)

    def test_what_is_refused_changes_nothing(self):
        wrong = ["not", ["odd"]]
        self.refused(lambda text: read_wish(ALL_THREE, text), wrong, "not(", "one(odd;")
        self.assertEqual(wrong, ["not", ["odd"]])
        self.assertEqual(read_wish(ALL_THREE, "one(odd;hub)"), ("one", ("odd",), ("hub",)))


if __name__ == "__main__":
    unittest.main()
