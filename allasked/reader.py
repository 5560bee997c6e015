"""Frames, wishes, plans and what is known, read: point 27 of the document."""

from allasked.errors import NoText
from allasked.frames import is_frame
from allasked.wishes import MOST_PARTS, WISHES_WITHIN, is_simple_wish

FIGURES = "0123456789"
MOST_FIGURES = 2
TRUTHS = {"+": True, "-": False, ".": None}
ENDS = {"yes": ("end", True), "no": ("end", False)}


def read_number(word):
    """The number that a word of at most two figures writes, or None."""
    if not 1 <= len(word) <= MOST_FIGURES or not all(sign in FIGURES for sign in word):
        return None
    if word[0] == "0" and word != "0":
        return None
    return int(word)


def read_pair(word):
    """The two numbers, the lesser one first, that a word writes with a - between, or None."""
    first, dash, second = word.partition("-")
    pair = (read_number(first), read_number(second))
    if None in pair or pair[0] >= pair[1]:
        return None
    return pair


def read_truths(word):
    """The tuple that a word writes by one sign for each thing, or None."""
    if not all(sign in TRUTHS for sign in word):
        return None
    return tuple(TRUTHS[sign] for sign in word)


def check_text(thing):
    """Refuse with NoText what is no text."""
    if not isinstance(thing, str):
        raise NoText("this is no text")


class Source:
    """A text, and how far it has been read."""

    def __init__(self, text):
        check_text(text)
        self.text = text
        self.at = 0
        self.parts = 0

    def begins(self, sign):
        """Tell whether the rest begins with a sign."""
        return self.text[self.at:self.at + 1] == sign

    def skip(self, sign):
        """Read a sign that must stand there."""
        if not self.begins(sign):
            raise NoText("a sign is missing: " + sign)
        self.at += 1

    def plain_part(self):
        """Read all up to the next bracket or semicolon, or to the end."""
        start = self.at
        while self.at < len(self.text) and self.text[self.at] not in "(;)":
            self.at += 1
        return self.text[start:self.at]

    def count_part(self):
        """Count a part of a wish."""
        self.parts += 1
        # Refused ahead of reading on, so brackets are never read deep down.
        if self.parts > MOST_PARTS:
            raise NoText("a wish has not so many parts")

    def finish(self):
        """Refuse with NoText where something is left to be read."""
        if self.at < len(self.text):
            raise NoText("there is something behind the end")


def simple_wish(text):
    """What a text writes where it is a wish without wishes in it; it may be none, too."""
    word, blank, rest = text.partition(" ")
    if word in ("tie", "way"):
        pair = read_pair(rest)
        return (word,) if pair is None else (word,) + pair
    if word == "told":
        return (word, read_truths(rest))
    numbers = rest.split(" ") if blank else []
    return (word,) + tuple(read_number(number) for number in numbers)


def wish_at(frame, source):
    """Read a wish from where the source is."""
    source.count_part()
    text = source.plain_part()
    if not source.begins("("):
        wish = simple_wish(text)
        if not is_simple_wish(frame, wish):
            raise NoText("this is no wish of the frame")
        return wish
    if text not in WISHES_WITHIN:
        raise NoText("no bracket may stand here")
    source.skip("(")
    within = [wish_at(frame, source)]
    while len(within) < WISHES_WITHIN[text]:
        source.skip(";")
        within.append(wish_at(frame, source))
    source.skip(")")
    return (text, *within)


def plan_at(free, source):
    """Read a plan that asks only free ties, none a second time on one way, from where the source is."""
    text = source.plain_part()
    if text in ENDS:
        return ENDS[text]
    tie = read_pair(text[:-1])
    if tie not in free or text[-1] != "?":
        raise NoText("neither an end nor a tie to be asked")
    # With each ask a tie is free no more, so brackets are never read deep down.
    left = [other for other in free if other != tie]
    source.skip("(")
    there = plan_at(left, source)
    source.skip(";")
    gone = plan_at(left, source)
    source.skip(")")
    return ("ask", tie, there, gone)


def read_frame(text):
    """The frame that a text writes, or NoText."""
    check_text(text)
    place_word, blank, rest = text.partition(" ")
    many, colon, ties = rest.partition(":")
    # Each tie has a blank ahead of it, so what is ahead of the first blank is no tie.
    ahead, *words = ties.split(" ")
    frame = (read_number(many), tuple(read_pair(word) for word in words))
    if place_word != "places" or colon != ":" or ahead != "" or not is_frame(frame):
        raise NoText("this is no frame")
    return frame


def read_wish(frame, text):
    """The wish of the frame that a text writes, or NoText."""
    source = Source(text)
    wish = wish_at(frame, source)
    source.finish()
    return wish


def read_plan(frame, text):
    """The plan from nothing known that a text writes, or NoText."""
    source = Source(text)
    plan = plan_at(frame[1], source)
    source.finish()
    return plan


def read_known(frame, text):
    """What is known of the frame as a text writes it, or NoText."""
    check_text(text)
    known = read_truths(text)
    if known is None or len(known) != len(frame[1]):
        raise NoText("this is nothing known of the frame")
    return known
