"""Tables of wishes: point 9 of the document."""

from allasked.frames import webs
from allasked.wishes import has


def table_of(frame, wish):
    """For each web, by its number, whether it has the wish."""
    return [has(frame, wish, web) for web in webs(frame)]


def first_unlike(frame, wish, other):
    """The first web that has just one of the two wishes, or None."""
    for web in webs(frame):
        if has(frame, wish, web) != has(frame, other, web):
            return web
    return None
