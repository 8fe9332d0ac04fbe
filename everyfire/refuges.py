"""Refuges: walks along paths that keep off every fire, and until when somebody can set out on one."""

from everyfire.errors import InvalidQuestion
from everyfire.fires import least_numbers
from everyfire.questions import ask
from everyfire.walks import quickest_walks


def safe_walk(land, weather, starts, breaks, place, minute):
    """Return a safe walk to a place that never burns, which comes there as early as possible, or None."""
    burns = _burns(ask(land, weather, starts, breaks, [place]))
    _check_minute(minute)
    walks = quickest_walks(land, place, minute, burns)
    goals = [goal for goal in land.places if goal in walks and goal not in burns]
    if len(goals) == 0:
        return None
    # Of several goals with the least minute, min takes the first one.
    goal = min(goals, key=lambda name: walks[name][0])
    return [(step, walks[step][0]) for step in walks[goal][1]]


def is_safe_walk(land, weather, starts, breaks, rows):
    """Tell whether a walk is safe. No other walk is looked for."""
    burns = _burns(ask(land, weather, starts, breaks, [place for place, _ in rows]))
    if len(rows) == 0 or rows[-1][0] in burns:
        return False
    if not all([minute >= 0 and _is_clear(burns, place, minute) for place, minute in rows]):
        return False
    return all([_is_safe_step(land, burns, row, behind) for row, behind in zip(rows, rows[1:])])


def last_departure(land, weather, starts, breaks, place):
    """Return ("always",), ("never",) or ("until", the last minute at which a safe walk can begin at the place)."""
    burns = _burns(ask(land, weather, starts, breaks, [place]))
    if place not in burns:
        return ("always",)
    # A walk can begin at each minute up to the one that is looked for, and at none behind it.
    good = -1
    bad = burns[place]
    while bad - good > 1:
        middle = (good + bad) // 2
        if _can_begin(land, burns, place, middle):
            good = middle
        else:
            bad = middle
    return ("never",) if good == -1 else ("until", good)


def refuges(land, weather, starts, breaks, minute):
    """Return the list of the places at which a safe walk can begin at the minute."""
    burns = _burns(ask(land, weather, starts, breaks))
    _check_minute(minute)
    return [place for place in land.places if _can_begin(land, burns, place, minute)]


def _check_minute(minute):
    if minute < 0:
        raise InvalidQuestion(f"minutes count from 0: {minute}")


def _burns(question):
    """Return a dict of the first minutes of the places in the fastest fire."""
    return question.first_minutes(least_numbers(question.land))


def _can_begin(land, burns, place, minute):
    return any([goal not in burns for goal in quickest_walks(land, place, minute, burns)])


def _is_clear(burns, place, minute):
    """Tell whether the place does not burn at the minute."""
    return place not in burns or minute < burns[place]


def _is_safe_step(land, burns, row, behind):
    """Tell whether somebody can leave the place of a row of a walk in time for the next row."""
    place, minute = row
    minutes = land.minutes_between(place, behind[0])
    if minutes is None:
        return False
    leaving = behind[1] - minutes
    return leaving >= minute and _is_clear(burns, place, leaving)
