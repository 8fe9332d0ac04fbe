"""What breaks are worth: what each one keeps and delays, and which offers are needed."""

from everyfire.errors import InvalidQuestion
from everyfire.fires import least_numbers, most_numbers
from everyfire.questions import ask

MOST_OFFERS = 3


def worths(land, weather, starts, breaks):
    """Return the list of the tuple (places that it keeps, places that it delays) of each break."""
    question = ask(land, weather, starts, breaks)
    least = least_numbers(land)
    minutes = question.first_minutes(least)
    others = [question.without_break(number) for number in range(len(breaks))]
    return [_worth_of(land, minutes, other.first_minutes(least)) for other in others]


def _worth_of(land, minutes, without):
    """Return what a break keeps and delays, from the first minutes with it and without it."""
    burning = [place for place in land.places if place in without]
    kept = [place for place in burning if place not in minutes]
    delayed = [place for place in burning if place in minutes and without[place] < minutes[place]]
    return (tuple(kept), tuple(delayed))


def idle_breaks(land, weather, starts, breaks):
    """Return the list of the numbers of the breaks without which both fires burn just the same."""
    question = ask(land, weather, starts, breaks)
    minutes = _minutes_of_both(question)
    return [
        number for number in range(len(breaks))
        if _minutes_of_both(question.without_break(number)) == minutes
    ]


def _minutes_of_both(question):
    """Return the pair of the first minutes in the fastest and in the slowest fire."""
    fast = question.first_minutes(least_numbers(question.land))
    slow = question.first_minutes(most_numbers(question.land))
    return (fast, slow)


def keeps(land, weather, starts, breaks, goals):
    """Tell whether the breaks keep all goals."""
    question = ask(land, weather, starts, breaks, goals)
    minutes = question.first_minutes(least_numbers(land))
    return not any([goal in minutes for goal in goals])


def least_offers(land, weather, starts, offers, goals, *, breaks=(), most=2):
    """Return the list of the least lists of offers with which all goals are kept."""
    offered = [place for place, _ in offers]
    question = ask(land, weather, starts, breaks, [*offered, *goals])
    if isinstance(most, bool) or not isinstance(most, int) or not 0 <= most <= MOST_OFFERS:
        raise InvalidQuestion(f"at most 0 to {MOST_OFFERS} offers are taken, not {most}")
    search = OfferSearch(question, offers, goals)
    lists = [()]
    found = search.enough(lists)
    for _ in range(most):
        if len(found) > 0:
            break
        lists = search.longer(lists)
        found = search.enough(lists)
    return sorted(found)


class OfferSearch:
    """The search for the least lists of offers, each told as an ascending tuple of their numbers.

    An offer is only taken where it stops the fire on its way to a goal. So its place burns no more, in whatever
    further fire, and it does not matter for the others which of the offers of this place is taken, or when.
    """

    def __init__(self, question, offers, goals):
        self.question = question
        self.offers = list(offers)
        self.goals = list(goals)
        self.ways = {}

    def enough(self, lists):
        """Return those of the lists of offers with which all goals are kept."""
        return [row for row in lists if len(self._way(row)) == 0]

    def longer(self, lists):
        """Return the lists with one more offer each that may keep all goals, from lists that do not."""
        found = {}
        for row in lists:
            way = self._way(row)
            for number, (place, minute) in enumerate(self.offers):
                # A list without an offer that stops this way leaves it open.
                if place in way and minute <= way[place]:
                    found[tuple(sorted([*row, number]))] = True
        return list(found)

    def _way(self, row):
        """Return the first minutes of the places on a way to a goal with these offers, none if the goals are kept."""
        broken = tuple(sorted([self.offers[number][0] for number in row]))
        if broken not in self.ways:
            self.ways[broken] = self._find_way(broken)
        return self.ways[broken]

    def _find_way(self, broken):
        question = self.question.with_breaks([(place, 0) for place in broken])
        caught = question.catches(least_numbers(question.land))
        burnt = [goal for goal in self.goals if goal in caught]
        if len(burnt) == 0:
            return {}
        return {place: minute for place, _, minute in question.chain_to(caught, burnt[0])}
