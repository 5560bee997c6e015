"""Games of asking: point 26 of the document."""

from allasked.errors import NoBack, NoTie, NoTruth
from allasked.frames import is_tie
from allasked.known import with_answer
from allasked.least import best_numbers, held_answer, reckoned


class Game:
    """A game of a frame and a wish, in which ties come to be known one behind another."""

    def __init__(self, frame, wish):
        nothing = (None,) * len(frame[1])
        self.frame = frame
        self.done = reckoned(frame, wish, nothing)
        # What was known at first and behind each deed.
        self.steps = [nothing]

    def asked_number(self, tie):
        """The number of a tie that may be asked, or NoTie."""
        if not is_tie(self.frame, tie):
            raise NoTie("this is no tie of the frame")
        at = self.frame[1].index(tie)
        if self.known()[at] is not None:
            raise NoTie("this tie is known already")
        return at

    def tell(self, tie, truth):
        """Make a tie known to be there or not."""
        at = self.asked_number(tie)
        if not isinstance(truth, bool):
            raise NoTruth("an answer is True or False")
        self.steps.append(with_answer(self.known(), at, truth))

    def foe(self, tie):
        """Make a tie known as the foe answers, so that as many asks as can be are left."""
        truth, known = held_answer(self.done, self.known(), self.asked_number(tie))
        self.steps.append(known)
        return truth

    def back(self):
        """Take back the last deed that has not been taken back."""
        if len(self.steps) == 1:
            raise NoBack("there is no deed to take back")
        self.steps.pop()

    def known(self):
        """What is known."""
        return self.steps[-1]

    def settled(self):
        """The truth that is settled, or None."""
        return self.done[self.known()][0]

    def left(self):
        """The least from what is known."""
        return self.done[self.known()][1]

    def best(self):
        """The first of the ties with which the least is reached, or None where it is settled."""
        numbers = best_numbers(self.done, self.known())
        return self.frame[1][numbers[0]] if numbers else None
