"""How many webs of each size have a wish: point 20 of the document."""

from allasked.frames import webs
from allasked.tables import table_of


def counts(frame, wish):
    """For each number of ties, from 0 on, how many webs with so many have the wish."""
    found = [0] * (len(frame[1]) + 1)
    for web, truth in zip(webs(frame), table_of(frame, wish)):
        if truth:
            found[len(web)] += 1
    return found


def signed(frame, wish):
    """The counts of the even numbers of ties together, less those of the odd ones."""
    found = counts(frame, wish)
    return sum(found[::2]) - sum(found[1::2])


def divided(numbers):
    """The list divided once, or None where it can't be."""
    made = []
    for number in numbers:
        ahead = made[-1] if made else 0
        made.append(number - ahead)
    if not made or made[-1] != 0:
        return None
    return made[:-1]


def spared(frame, wish):
    """How often the counts can be divided, one time behind the other."""
    rest = counts(frame, wish)
    # Without this the last 0 of the counts would be divided away, too.
    if not any(rest):
        return len(frame[1])
    times = 0
    rest = divided(rest)
    while rest is not None:
        times += 1
        rest = divided(rest)
    return times
