"""Questions for the tests, and fires that are found minute by minute, without the program's own search."""

import random

from everyfire.errors import UnknownName
from everyfire.lands import Land

WINDS = ["north", "west", "calm"]
STRANGE = ["moor", "north", "l0", "", "A", "a ", "two words", "\u00e4"]


def random_times(chance, winds, longest, shut):
    """Return the times of a link, which is shut in such a part of the winds."""
    times = []
    for _ in range(winds):
        least = chance.randint(1, longest)
        times.append(None if chance.random() < shut else (least, least + chance.randint(0, 3 * longest)))
    return times


def random_land(chance, places=6, links=10, winds=2, longest=5, shut=0.3):
    names = "abcdefghijklmnopqrstuvwx"[:places]
    told = []
    for at in range(links):
        one, other = chance.sample(names, 2)
        told.append((f"l{at}", one, other, random_times(chance, winds, longest, shut)))
    return Land(winds=WINDS[:winds], places=list(names), links=told)


def random_weather(chance, land, rows=4, longest=6):
    minute = 0
    weather = []
    for _ in range(chance.randint(1, rows)):
        weather.append((minute, chance.choice(land.winds)))
        minute += chance.randint(1, longest)
    return weather


def random_rows(chance, land, most, latest):
    """Return up to so many rows (place, minute)."""
    return [(chance.choice(land.places), chance.randint(0, latest)) for _ in range(chance.randint(0, most))]


def random_numbers(chance, land):
    return [[None if bounds is None else chance.randint(*bounds) for bounds in link[3]] for link in land.links]


def random_question(chance, **sizes):
    """Return a land, a weather, starts and breaks."""
    land = random_land(chance, **sizes)
    starts = random_rows(chance, land, 3, 6)
    breaks = [(place, minute + 2) for place, minute in random_rows(chance, land, 3, 16)]
    return land, random_weather(chance, land), starts, breaks


def spread_question(chance, breaks=2):
    """Return a question in which a good part of the land burns, with several links between the same places."""
    land = random_land(chance, places=6, links=16, longest=3, shut=0.15)
    starts = [(chance.choice(land.places), chance.randint(0, 3))]
    others = [place for place in land.places if place != starts[0][0]]
    told = [(chance.choice(others), chance.randint(1, 12)) for _ in range(chance.randint(0, breaks))]
    return land, random_weather(chance, land), starts, told


def random_paths(chance, land, paths=9, longest=5):
    """Return the land with further paths."""
    for _ in range(paths):
        land = land.with_path(*chance.sample(land.places, 2), chance.randint(1, longest))
    return land


def random_hands(chance, land, most=3, deeds=7, longest=5):
    """Return up to so many hands with a plan that is right."""
    hands = []
    for name in ("ann", "bob", "carl")[:chance.randint(0, most)]:
        begin = here = chance.choice(land.places)
        told = []
        for _ in range(chance.randint(0, deeds)):
            walks = land.walks_from(here)
            if walks and chance.random() < 0.5:
                here = chance.choice(walks)[0]
                told.append(("walk", here))
            else:
                told.append((chance.choice(["cut", "wait"]), chance.randint(1, longest)))
        hands.append((name, begin, told))
    return hands


def slow_wind(weather, minute):
    return [wind for begin, wind in weather if begin <= minute][-1]


def slow_burning(land, weather, starts, breaks, numbers, until=200):
    """Return the list of (place, first minute or None), found by looking at each minute."""
    coming = {minute: {place for place, begin in starts if begin == minute} for minute in range(until)}
    burns = {}
    for minute in range(until):
        for place in coming[minute]:
            stopped = any(broken == place and stop <= minute for broken, stop in breaks)
            if place not in burns and not stopped:
                burns[place] = minute
        wind = land.winds.index(slow_wind(weather, minute))
        for link, row in zip(land.links, numbers):
            if link[1] in burns and row[wind] is not None and minute + row[wind] < until:
                coming[minute + row[wind]].add(link[2])
    return [(place, burns.get(place)) for place in land.places]


def extreme(land, at):
    """Return the numbers with the bounds at this place: 0 for the least, 1 for the greatest ones."""
    return [[None if bounds is None else bounds[at] for bounds in link[3]] for link in land.links]


def line_land(many, bounds=(1, 2), winds=("calm",)):
    """Return a land of places p0, p1 .. in a line, with a link from each to the next one."""
    links = [(f"l{at}", f"p{at}", f"p{at + 1}", [bounds] * len(winds)) for at in range(many - 1)]
    return Land(winds=list(winds), places=[f"p{at}" for at in range(many)], links=links)


def large_question(longest=1000, step=2500):
    """Return a question at the document's limits: 24 places, 60 links, 4 winds and a weather of 40 rows."""
    chance = random.Random(5)
    winds = ["north", "east", "south", "west"]
    places = [f"p{at}" for at in range(24)]
    links = []
    for at in range(60):
        one, other = (at, at + 1) if at < 23 else chance.sample(range(24), 2)
        times = [None if chance.random() < 0.5 else (chance.randint(1, longest), longest) for _ in winds]
        links.append((f"l{at}", places[one], places[other], times))
    land = Land(winds=winds, places=places, links=links)
    weather = [(at * step, winds[at % 4]) for at in range(40)]
    return land, weather, [("p0", 3)], [("p20", 90000), ("p7", 5)]


def large_paths(land):
    """Return a land with 60 paths, among them a line along all places."""
    chance = random.Random(7)
    for one, other in zip(land.places, land.places[1:]):
        land = land.with_path(one, other, chance.randint(1, 1000))
    while len(land.paths) < 60:
        land = land.with_path(*chance.sample(land.places, 2), chance.randint(1, 1000))
    return land


def raised(ask, *told, **named):
    """Return the error that a call raises as its class, with the name for an unknown name; or None."""
    try:
        ask(*told, **named)
    except UnknownName as error:
        return (UnknownName, error.name)
    except ValueError as error:
        return type(error)
    return None
