"""Papers from which the state of a place is seen without a search."""

from everyfire.fires import MAYBE, NEVER, SURELY, least_numbers, most_numbers
from everyfire.questions import ask, least_minutes


class Paper:
    """A paper about a place: a word, labels (place, minute) and a chain of rows (place, link, minute)."""

    def __init__(self, word, labels, chain):
        self.word = word
        self.labels = [tuple(label) for label in labels]
        self.chain = [tuple(row) for row in chain]


def paper(land, weather, starts, breaks, place):
    """Return a right paper about the place."""
    question = ask(land, weather, starts, breaks, [place])
    fast = question.catches(least_numbers(land))
    slow = question.catches(most_numbers(land))
    if place not in fast:
        return Paper(NEVER, _labels_of(land, fast), [])
    if place in slow:
        return Paper(SURELY, [], question.chain_to(slow, place))
    return Paper(MAYBE, _labels_of(land, slow), question.chain_to(fast, place))


def _labels_of(land, caught):
    return [(place, caught[place][2]) for place in land.places if place in caught]


def check_paper(land, weather, starts, breaks, place, told):
    """Tell whether the paper about the place is right. No fire is looked for."""
    question = ask(land, weather, starts, breaks, [place])
    least = least_numbers(land)
    most = most_numbers(land)
    if told.word == NEVER:
        return len(told.chain) == 0 and _keep_off(question, least, told.labels, place)
    if told.word == SURELY:
        return len(told.labels) == 0 and _comes_to(question, most, told.chain, place)
    if told.word == MAYBE:
        return _keep_off(question, most, told.labels, place) and _comes_to(question, least, told.chain, place)
    return False


def _keep_off(question, numbers, labels, place):
    """Tell whether the labels bound the fire with these numbers and give the place no number."""
    if not all([name in question.land.places and minute >= 0 for name, minute in labels]):
        return False
    bounds = least_minutes(labels)
    return place not in bounds and _hold_starts(question, bounds) and _hold_links(question, numbers, bounds)


def _hold_starts(question, bounds):
    return all([_holds(question, bounds, place, minute) for place, minute in question.starts])


def _hold_links(question, numbers, bounds):
    for link, row in zip(question.land.links, numbers):
        if link[1] in bounds:
            passed = question.through(row, bounds[link[1]])
            if passed is not None and not _holds(question, bounds, link[2], passed):
                return False
    return True


def _holds(question, bounds, place, minute):
    """Tell whether the bounds allow that the fire comes to the place at the minute."""
    if not question.is_ahead(minute, place):
        return True
    return place in bounds and bounds[place] <= minute


def _comes_to(question, numbers, chain, place):
    """Tell whether the chain comes to the place with these numbers."""
    if len(chain) == 0 or chain[-1][0] != place:
        return False
    if any([minute < 0 for _, _, minute in chain]) or not _is_beginning(question, chain[0]):
        return False
    return all([_follows(question, numbers, before, row) for before, row in zip(chain, chain[1:])])


def _is_beginning(question, row):
    place, name, minute = row
    return name is None and (place, minute) in question.starts and question.is_ahead(minute, place)


def _follows(question, numbers, before, row):
    """Tell whether the fire of a row of a chain comes to the next row as this row says."""
    place, name, minute = row
    names = question.land.link_names
    if name not in names:
        return False
    number = names.index(name)
    if question.land.links[number][1:3] != (before[0], place):
        return False
    return question.through(numbers[number], before[2]) == minute and question.is_ahead(minute, place)
