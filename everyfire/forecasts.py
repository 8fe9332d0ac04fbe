"""Forecasts: what holds in any or every weather, in several weathers, and how much burns."""

from everyfire.fires import MAYBE, NEVER, SURELY, least_numbers, most_numbers
from everyfire.questions import ask, ask_all


def any_weather(land, starts, breaks):
    """Return the list of (place, earliest minute over all weathers or None)."""
    # With the same number in each wind it does not matter which weather is asked for.
    numbers = [_least_row(link) for link in land.links]
    minutes = ask(land, [(0, land.winds[0])], starts, breaks).first_minutes(numbers)
    return [(place, minutes.get(place)) for place in land.places]


def _least_row(link):
    """Return the least number of a link over the winds in which it is open, or None, for each wind."""
    least = min([bounds[0] for bounds in link[3] if bounds is not None], default=None)
    return (least,) * len(link[3])


def every_weather(land, starts):
    """Return the list of the places that burn in every fire in every weather, without breaks."""
    questions = [ask(land, [(0, wind)], starts, []) for wind in land.winds]
    slow = [_slow(question) for question in questions]
    return [place for place in land.places if all([place in minutes for minutes in slow])]


def forecast(land, weathers, starts, breaks):
    """Return the list of (place, state) over some weathers."""
    questions = ask_all(land, weathers, starts, breaks)
    fast = [_fast(question) for question in questions]
    slow = [_slow(question) for question in questions]
    return [(place, _state(place, fast, slow)) for place in land.places]


def _state(place, fast, slow):
    """Return the state of a place, from the first minutes in the fastest and the slowest fires of some weathers."""
    if not any([place in minutes for minutes in fast]):
        return NEVER
    if all([place in minutes for minutes in slow]):
        return SURELY
    return MAYBE


def first_danger(land, weathers, starts, breaks, places):
    """Return the tuple (least minute at which one of the places burns in one of the weathers, place), or None."""
    questions = ask_all(land, weathers, starts, breaks, places)
    found = []
    for question in questions:
        minutes = _fast(question)
        found.extend([(minutes[place], place) for place in places if place in minutes])
    return min(found, default=None)


def burnt(land, weather, starts, breaks, minute):
    """Return the tuple of the least and the greatest number of places that burn at the minute."""
    question = ask(land, weather, starts, breaks)
    return (_count(_slow(question), minute), _count(_fast(question), minute))


def growth(land, weather, starts, breaks):
    """Return the list of (minute, least, greatest number of places that burn) for all minutes at which one begins."""
    question = ask(land, weather, starts, breaks)
    fast = _fast(question)
    slow = _slow(question)
    minutes = sorted(set(list(fast.values()) + list(slow.values())))
    return [(minute, _count(slow, minute), _count(fast, minute)) for minute in minutes]


def _count(minutes, minute):
    return len([first for first in minutes.values() if first <= minute])


def _fast(question):
    """Return a dict of the first minutes of the places in the fastest fire."""
    return question.first_minutes(least_numbers(question.land))


def _slow(question):
    """Return a dict of the first minutes of the places in the slowest fire."""
    return question.first_minutes(most_numbers(question.land))
