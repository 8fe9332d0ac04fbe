"""Walks along paths: the quickest ones, also such that keep off places that burn."""

from heapq import heappop, heappush


def quickest_walks(land, place, minute, burns):
    """Return a dict of the quickest walk to each place, as a tuple (minute of coming, tuple of the places).

    The walks begin at the place at the minute and never wait. Burns is a dict of the first minutes of places: no walk
    comes to one of them from this minute on. Of walks that come at the same minute, the first one by names is told.
    """
    waiting = [(minute, (place,))]
    found = {}
    while len(waiting) > 0:
        now, names = heappop(waiting)
        here = names[-1]
        if here in found or (here in burns and burns[here] <= now):
            continue
        found[here] = (now, names)
        for other, minutes in land.walks_from(here):
            if other not in found:
                heappush(waiting, (now + minutes, (*names, other)))
    return found
