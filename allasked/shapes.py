"""Shapes of webs: point 6 of the document."""


def near(web, place):
    """The places that are tied to a place."""
    found = []
    for a, b in web:
        if a == place:
            found.append(b)
        if b == place:
            found.append(a)
    return found


def ways_from(web, start):
    """For each place in one piece with start, a shortest list of places that leads there."""
    ways = {start: [start]}
    waiting = [start]
    while waiting:
        place = waiting.pop(0)
        for other in near(web, place):
            if other not in ways:
                ways[other] = ways[place] + [other]
                waiting.append(other)
    return ways


def pieces(frame, web):
    """The pieces of a web, rising lists of places, by their first places."""
    found = []
    for place in range(frame[0]):
        if not any(place in piece for piece in found):
            ways = ways_from(web, place)
            found.append(sorted(ways.keys()))
    return found


def ring_of(frame, web):
    """Some ring of the web, or None."""
    ahead = []
    for a, b in web:
        # A way that does without this tie is closed to a ring by it.
        way = ways_from(ahead, a).get(b)
        if way is not None:
            return way
        ahead.append((a, b))
    return None


def sides_of(frame, web):
    """Some sides of the web, or None."""
    sides = [0] * frame[0]
    for piece in pieces(frame, web):
        ways = ways_from(web, piece[0])
        for place in piece:
            # Along a way the sides alternate, so the first place settles its piece.
            sides[place] = (len(ways[place]) - 1) % 2
    if any(sides[a] == sides[b] for a, b in web):
        return None
    return sides
