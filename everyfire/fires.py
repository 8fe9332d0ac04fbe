"""Fires: when the places burn in one fire, and what holds for all fires."""

from everyfire.errors import InvalidQuestion
from everyfire.questions import ask

NEVER = "never"
MAYBE = "maybe"
SURELY = "surely"


def least_numbers(land):
    """Return the numbers of the fastest fire."""
    return tuple([tuple([None if bounds is None else bounds[0] for bounds in link[3]]) for link in land.links])


def most_numbers(land):
    """Return the numbers of the slowest fire."""
    return tuple([tuple([None if bounds is None else bounds[1] for bounds in link[3]]) for link in land.links])


def check_numbers(land, numbers):
    """Raise InvalidQuestion if these are not the numbers of a fire."""
    if len(numbers) != len(land.links):
        raise InvalidQuestion(f"a fire has {len(land.links)} rows of numbers, not {len(numbers)}")
    for link, row in zip(land.links, numbers):
        if len(row) != len(land.winds):
            raise InvalidQuestion(f"the row of a link has not one number for each wind: {link[0]}")
        for bounds, number in zip(link[3], row):
            if not _is_within(bounds, number):
                raise InvalidQuestion(f"a number of a link is not within its bounds: {link[0]} {number}")


def _is_within(bounds, number):
    if bounds is None or number is None:
        return bounds is None and number is None
    return bounds[0] <= number <= bounds[1]


def burning(land, weather, starts, breaks, numbers):
    """Return the list of (place, first minute or None) in the fire with these numbers."""
    question = ask(land, weather, starts, breaks)
    check_numbers(land, numbers)
    return _rows_of(question, numbers)


def fastest(land, weather, starts, breaks):
    """Return the list of (place, first minute or None) in the fastest fire."""
    return _rows_of(ask(land, weather, starts, breaks), least_numbers(land))


def slowest(land, weather, starts, breaks):
    """Return the list of (place, first minute or None) in the slowest fire."""
    return _rows_of(ask(land, weather, starts, breaks), most_numbers(land))


def _rows_of(question, numbers):
    minutes = question.first_minutes(numbers)
    return [(place, minutes.get(place)) for place in question.land.places]


def states(land, weather, starts, breaks):
    """Return the list of (place, state)."""
    return _states_of(ask(land, weather, starts, breaks))


def state_of(land, weather, starts, breaks, place):
    """Return the state of the place."""
    rows = _states_of(ask(land, weather, starts, breaks, [place]))
    return dict(rows)[place]


def _states_of(question):
    fast = question.first_minutes(least_numbers(question.land))
    slow = question.first_minutes(most_numbers(question.land))
    return [(place, _state(place in fast, place in slow)) for place in question.land.places]


def _state(in_fastest, in_slowest):
    if not in_fastest:
        return NEVER
    if in_slowest:
        return SURELY
    return MAYBE
