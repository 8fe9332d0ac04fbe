"""Lands compared: which one is never slower, and which links matter for a fire."""

from everyfire.errors import InvalidQuestion
from everyfire.fires import least_numbers, most_numbers
from everyfire.lands import Land
from everyfire.questions import ask


def is_never_slower(one, other):
    """Tell whether the first land is shown to be never slower than the other one."""
    links = {link[0]: link for link in one.links}
    if not _are_alike(one, other) or not all([link[0] in links for link in other.links]):
        return False
    return all([_replaces(links[link[0]], link) for link in other.links])


def burning_earlier(one, other, weather, starts, breaks):
    """Return the list of the places that can burn earlier in the first land than in the other one."""
    if not _are_alike(one, other):
        raise InvalidQuestion("the lands have not the same winds and places in the same orders")
    sooner = ask(one, weather, starts, breaks).first_minutes(least_numbers(one))
    later = ask(other, weather, starts, breaks).first_minutes(least_numbers(other))
    burnt = [place for place in one.places if place in sooner]
    return [place for place in burnt if place not in later or sooner[place] < later[place]]


def idle_links(land, weather, starts, breaks):
    """Return the list of the names of the links without which both fires do the same."""
    question = ask(land, weather, starts, breaks)
    both = _numbers_of_both(land)
    minutes = _minutes_of(question, both)
    names = []
    for number, link in enumerate(land.links):
        if _minutes_of(question, _without(both, number)) == minutes:
            names.append(link[0])
    return names


def lean_land(land, weather, starts, breaks):
    """Return the land without its first idle link, again and again until there is none."""
    question = ask(land, weather, starts, breaks)
    both = _numbers_of_both(land)
    minutes = _minutes_of(question, both)
    links = []
    # No link becomes idle when idle ones are left out, so those that were passed by need no second look.
    for number, link in enumerate(land.links):
        others = _without(both, number)
        if _minutes_of(question, others) == minutes:
            both = others
        else:
            links.append(link)
    return Land(winds=land.winds, places=land.places, links=links, paths=land.paths)


def needed_links(land, weather, starts, breaks, place):
    """Return the list of the names of the links without which the place never burns, or None if it never does."""
    question = ask(land, weather, starts, breaks, [place])
    least = least_numbers(land)
    if place not in question.first_minutes(least):
        return None
    names = []
    for number, link in enumerate(land.links):
        if place not in question.first_minutes(_shut(least, number)):
            names.append(link[0])
    return names


def _are_alike(one, other):
    """Tell whether two lands have the same winds and the same places, in the same orders."""
    return one.winds == other.winds and one.places == other.places


def _replaces(link, other):
    """Tell whether a fire that can pass the other link can do so along this one, too, and as early."""
    if link[1:3] != other[1:3]:
        return False
    return all([_is_as_quick(bounds, others) for bounds, others in zip(link[3], other[3])])


def _is_as_quick(bounds, others):
    if others is None:
        return True
    return bounds is not None and bounds[0] <= others[0] and bounds[1] <= others[1]


def _numbers_of_both(land):
    """Return the list of the numbers of the fastest and of the slowest fire."""
    return [least_numbers(land), most_numbers(land)]


def _minutes_of(question, both):
    """Return the list of the first minutes in the fires with these numbers."""
    return [question.first_minutes(numbers) for numbers in both]


def _without(both, number):
    """Return the numbers of two fires without the link with this number."""
    return [_shut(numbers, number) for numbers in both]


def _shut(numbers, number):
    """Return the numbers of a fire with this link shut in each wind, which is as if it were left out."""
    row = (None,) * len(numbers[number])
    return (*numbers[:number], row, *numbers[number + 1:])
