"""Cuts: the fewest places to be broken that keep some goals whatever the weather."""

from everyfire.errors import NoCut
from everyfire.flows import Pipes

FIRST = "first"
LAST = "last"
GATE = "gate"
EXIT = "exit"


class Cut:
    """The places of a cut, and as many ways of which no two share a place that may be broken."""

    def __init__(self, places, ways):
        self.places = list(places)
        self.ways = [tuple(way) for way in ways]


def is_kept(land, starts, goals, places):
    """Tell whether breaks from minute 0 on at the places keep all goals whatever the weather."""
    _check_places(land, [*starts, *goals, *places])
    return _keeps_all(land, starts, goals, places)


def cut(land, starts, goals, allowed):
    """Return a Cut with some of the allowed places, or raise NoCut."""
    _check_places(land, [*starts, *goals, *allowed])
    if not _keeps_all(land, starts, goals, allowed):
        raise NoCut("on some way from a start to a goal no place may be broken")
    pipes = _pipes_of(land, starts, goals, allowed)
    many = pipes.fill()
    reached = pipes.reached()
    places = [place for place in land.places if (GATE, place) in reached and (EXIT, place) not in reached]
    return Cut(places, [_way_of(pipes.take()) for _ in range(many)])


def check_cut(land, starts, goals, allowed, places, ways):
    """Tell whether the places and the ways are right. No better ones are looked for."""
    _check_places(land, [*starts, *goals, *allowed])
    # What is checked may be no name at all, so it is only compared.
    if len(places) != len(ways) or not all([place in allowed for place in places]):
        return False
    passes = _passes(land)
    if not all([_is_way(passes, starts, goals, way) for way in ways]):
        return False
    if any([len([way for way in ways if place in way]) > 1 for place in allowed]):
        return False
    return _keeps_all(land, starts, goals, places)


def single_breaks(land, starts, goals, allowed):
    """Return the list of the allowed places each of which alone keeps all goals whatever the weather."""
    _check_places(land, [*starts, *goals, *allowed])
    return [place for place in land.places if place in allowed and _keeps_all(land, starts, goals, [place])]


def _check_places(land, places):
    for place in places:
        land.check_place(place)


def _passes(land):
    """Return the list of the pairs of places along which a fire can pass in some wind."""
    return [(one, other) for _, one, other, times in land.links if any([bounds is not None for bounds in times])]


def _keeps_all(land, starts, goals, broken):
    passes = _passes(land)
    reached = {}
    waiting = list(starts)
    while len(waiting) > 0:
        place = waiting.pop()
        if place not in reached and place not in broken:
            reached[place] = True
            waiting.extend([other for one, other in passes if one == place])
    return not any([goal in reached for goal in goals])


def _is_way(passes, starts, goals, way):
    if len(way) == 0 or way[0] not in starts or way[-1] not in goals:
        return False
    return all([step in passes for step in zip(way, way[1:])])


def _pipes_of(land, starts, goals, allowed):
    """Return the pipes from the starts to the goals.

    A fire comes into a place at its gate and leaves it at its exit. Between them there is room for one way only if
    the place is an allowed one.
    """
    # Each way takes the room of an allowed place, so there are never as many ways as this.
    plenty = len(land.places) + 1
    pipes = Pipes(FIRST, LAST)
    for place in land.places:
        pipes.lay((GATE, place), (EXIT, place), 1 if place in allowed else plenty)
        if place in starts:
            pipes.lay(FIRST, (GATE, place), plenty)
        if place in goals:
            pipes.lay((EXIT, place), LAST, plenty)
    for one, other in _passes(land):
        pipes.lay((EXIT, one), (GATE, other), plenty)
    return pipes


def _way_of(nodes):
    """Return the places of the way that leads from the first node to the last one through these nodes."""
    return [place for side, place in nodes[1:-1] if side == GATE]
