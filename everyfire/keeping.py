"""Until when a further break at one place keeps another place from burning in every fire."""

from everyfire.fires import least_numbers
from everyfire.questions import ask


def last_minute(land, weather, starts, breaks, broken, kept):
    """Return ("kept",), ("never",) or ("until", the last minute at which a break at the one place keeps the other)."""
    question = ask(land, weather, starts, breaks, [broken, kept])
    minutes = question.first_minutes(least_numbers(land))
    return _last_minute(question, minutes, broken, kept)


def last_minutes(land, weather, starts, breaks, kept):
    """Return the list of (place, what `last_minute` tells for a break at it) for all places."""
    question = ask(land, weather, starts, breaks, [kept])
    minutes = question.first_minutes(least_numbers(land))
    return [(place, _last_minute(question, minutes, place, kept)) for place in land.places]


def keepers(land, weather, starts, breaks, kept):
    """Return the list of (place, last minute) of the places that keep the place, the latest minutes first."""
    rows = last_minutes(land, weather, starts, breaks, kept)
    found = [(place, told[1]) for place, told in rows if told[0] == "until"]
    return sorted(found, key=lambda row: row[1], reverse=True)


def _last_minute(question, minutes, broken, kept):
    """Return what `last_minute` tells, with the first minutes in the fastest fire."""
    if kept not in minutes:
        return ("kept",)
    stopped = question.with_breaks([(broken, 0)])
    if kept in stopped.first_minutes(least_numbers(question.land)):
        return ("never",)
    # A break stops the fire as one at minute 0 does until the place burns, and not at all behind it.
    return ("until", minutes[broken])
