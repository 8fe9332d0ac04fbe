"""What was seen: clears and seens that no fire makes true, and the bounds of the first minute of a place."""

from everyfire.fires import least_numbers, most_numbers
from everyfire.questions import ask


def denied_clears(land, weather, starts, breaks, clears):
    """Return the list of the clears that are true in no fire."""
    question = ask(land, weather, starts, breaks, _places_of(clears))
    return _denied_clears(question, clears)


def denied_seens(land, weather, starts, breaks, seens):
    """Return the list of the seens that are true in no fire."""
    question = ask(land, weather, starts, breaks, _places_of(seens))
    return _denied_seens(question, seens)


def can_be_clear(land, weather, starts, breaks, clears):
    """Tell whether all clears can be true in one fire."""
    return len(denied_clears(land, weather, starts, breaks, clears)) == 0


def can_be_seen(land, weather, starts, breaks, seens):
    """Tell whether all seens can be true in one fire."""
    return len(denied_seens(land, weather, starts, breaks, seens)) == 0


def contradictions(land, weather, starts, breaks, clears, seens):
    """Return the list of the tuples that tell which clears and seens cannot be true, and which not both."""
    question = ask(land, weather, starts, breaks, _places_of([*clears, *seens]))
    rows = [("clear", place, minute) for place, minute in _denied_clears(question, clears)]
    rows.extend([("seen", place, minute) for place, minute in _denied_seens(question, seens)])
    for place, minute in clears:
        rows.extend([("both", place, minute, by) for seen, by in seens if seen == place and by <= minute])
    return rows


def bounds_of(land, weather, starts, breaks, place):
    """Return the first minutes of the place in the fastest and in the slowest fire, or None."""
    question = ask(land, weather, starts, breaks, [place])
    fast = question.first_minutes(least_numbers(land))
    slow = question.first_minutes(most_numbers(land))
    return (fast.get(place), slow.get(place))


def _places_of(sightings):
    return [place for place, _ in sightings]


def _denied_clears(question, clears):
    slow = question.first_minutes(most_numbers(question.land))
    return [(place, minute) for place, minute in clears if _burns(slow, place, minute)]


def _denied_seens(question, seens):
    fast = question.first_minutes(least_numbers(question.land))
    return [(place, minute) for place, minute in seens if not _burns(fast, place, minute)]


def _burns(minutes, place, minute):
    return place in minutes and minutes[place] <= minute
