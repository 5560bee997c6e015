"""Wishes that grow: point 22 of the document."""

from allasked.errors import NoGrowth
from allasked.frames import webs
from allasked.tables import table_of


def first_ungrown(frame, table):
    """The first web that has the wish of this table, but with some tie more hasn't, and the first such tie, or None."""
    for number, web in enumerate(webs(frame)):
        for at, tie in enumerate(frame[1]):
            if table[number] and not table[number | (1 << at)]:
                return (web, tie)
    return None


def growing_table(frame, wish):
    """The table of a wish that grows, or NoGrowth."""
    table = table_of(frame, wish)
    if first_ungrown(frame, table) is not None:
        raise NoGrowth("the wish does not grow")
    return table


def weights_of(frame, web):
    """For each tie of a web, how much it weighs in the web's number."""
    return [1 << at for at, tie in enumerate(frame[1]) if tie in web]


def ungrown(frame, wish):
    """The first web that has the wish, but with some tie more hasn't, and the first such tie, or None."""
    return first_ungrown(frame, table_of(frame, wish))


def least_yeses(frame, wish):
    """The webs that have a growing wish and with any of their ties fewer don't, in order."""
    table = growing_table(frame, wish)
    found = []
    for number, web in enumerate(webs(frame)):
        if table[number] and not any(table[number - weight] for weight in weights_of(frame, web)):
            found.append(web)
    return found


def least_noes(frame, wish):
    """The ties without which no web has a growing wish, but with any one of them some has, as webs in order."""
    table = growing_table(frame, wish)
    last = len(table) - 1
    found = []
    for number, web in enumerate(webs(frame)):
        # The web of all other ties.
        others = last - number
        if not table[others] and all(table[others + weight] for weight in weights_of(frame, web)):
            found.append(web)
    return found
