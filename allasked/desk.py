"""The desk, which is told rows and answers by texts: point 28 of the document."""

from allasked.changed import cut
from allasked.counts import counts
from allasked.errors import NoRow, NoTie, NoTruth
from allasked.games import Game
from allasked.least import plan_for
from allasked.plans import lets_by, worst
from allasked.reader import read_frame, read_pair, read_plan, read_wish
from allasked.texts import known_text, plan_text, tie_text, truth_text

# How many words a row has, by its first one; of the row that begins with lets see below.
WORDS = {
    "tell": 3, "foe": 2, "back": 1, "known": 1, "settled": 1, "left": 1, "best": 1, "plan": 1, "counts": 1,
    "frame": 1, "wish": 1,
}
ANSWERS = {"yes": True, "no": False}


def words_of(row):
    """The words of a row, or NoRow; of the row that begins with lets all behind its first blank is one word."""
    if not isinstance(row, str):
        raise NoRow("this is no text")
    first, blank, rest = row.partition(" ")
    if first == "lets" and blank:
        return [first, rest]
    words = row.split(" ")
    if WORDS.get(first) != len(words):
        raise NoRow("there is no such row")
    return words


def tie_of(word):
    """The tie that a word writes, perhaps none of the frame, or NoTie."""
    tie = read_pair(word)
    if tie is None:
        raise NoTie("no tie is written so")
    return tie


def answer_of(word):
    """The answer that a word writes, or NoTruth."""
    if word not in ANSWERS:
        raise NoTruth("an answer is yes or no")
    return ANSWERS[word]


class Desk:
    """Keeps a game, of which it is told and asked by rows."""

    def __init__(self, frame_text, wish_text):
        self.frame = read_frame(frame_text)
        self.wish = read_wish(self.frame, wish_text)
        self.game = Game(self.frame, self.wish)
        # A frame or a wish is written in one way only, so these are their texts.
        self.texts = (frame_text, wish_text)

    def say(self, row):
        """The answer to a row."""
        word, *rest = words_of(row)
        if word in ("tell", "foe", "back"):
            return self.deed(word, rest)
        if word in ("known", "settled", "left", "best"):
            return self.standing(word)
        if word == "lets":
            return self.judged(rest[0])
        if word == "plan":
            return plan_text(plan_for(self.frame, self.wish, self.game.known()))
        if word == "counts":
            return " ".join(str(number) for number in counts(self.frame, self.wish))
        return self.texts[0] if word == "frame" else self.texts[1]

    def deed(self, word, rest):
        """Do what a row tells to do in the game, and answer it."""
        if word == "back":
            self.game.back()
            return "ok"
        tie = tie_of(rest[0])
        if word == "foe":
            return truth_text(self.game.foe(tie))
        self.game.tell(tie, answer_of(rest[1]))
        return "ok"

    def standing(self, word):
        """The answer to a row that asks how the game stands."""
        if word == "known":
            return known_text(self.game.known())
        if word == "left":
            return str(self.game.left())
        if word == "best":
            tie = self.game.best()
            return "none" if tie is None else tie_text(tie)
        truth = self.game.settled()
        return "open" if truth is None else truth_text(truth)

    def judged(self, text):
        """Whether a plan, cut by what is known, is let by, and its worst."""
        known = self.game.known()
        plan = cut(self.frame, read_plan(self.frame, text), known)
        if lets_by(self.frame, self.wish, known, plan):
            return f"yes {worst(plan)}"
        return "no"
