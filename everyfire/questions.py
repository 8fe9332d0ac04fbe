"""Questions about fires: a land, a weather, starts and breaks, and how one fire burns there."""

from heapq import heapify, heappop, heappush

from everyfire.errors import InvalidQuestion
from everyfire.weathers import check_rows, check_winds, spells_of


def ask(land, weather, starts, breaks, places=()):
    """Return the Question, once its names, the further places and the weather are looked at in this order."""
    return ask_all(land, [weather], starts, breaks, places)[0]


def ask_all(land, weathers, starts, breaks, places=()):
    """Return the list of the Questions for one or more weathers, once all of them are looked at in this order."""
    for weather in weathers:
        check_winds(land, weather)
    for place, _ in [*starts, *breaks]:
        land.check_place(place)
    for place in places:
        land.check_place(place)
    for weather in weathers:
        check_rows(weather)
    if len(weathers) == 0:
        raise InvalidQuestion("no weather is told")
    return [Question(land, weather, starts, breaks) for weather in weathers]


def least_minutes(rows):
    """Return a dict of the least minute with which each place stands in a list of (place, minute)."""
    least = {}
    for place, minute in rows:
        if place not in least or minute < least[place]:
            least[place] = minute
    return least


class Question:
    """What all fires of a question share: a land with a weather, starts and breaks that keep the rules."""

    def __init__(self, land, weather, starts, breaks):
        self.land = land
        self.weather = list(weather)
        self.starts = [tuple(start) for start in starts]
        self.breaks = [tuple(told) for told in breaks]
        self.spells = spells_of(land, weather)
        self.stops = least_minutes(breaks)
        self.leaving = {place: [] for place in land.places}
        for number, link in enumerate(land.links):
            self.leaving[link[1]].append((number, link))

    def with_breaks(self, further):
        """Return the question with further breaks."""
        return Question(self.land, self.weather, self.starts, [*self.breaks, *further])

    def without_break(self, number):
        """Return the question without the break with this number, from 0."""
        others = [*self.breaks[:number], *self.breaks[number + 1:]]
        return Question(self.land, self.weather, self.starts, others)

    def is_ahead(self, minute, place):
        """Tell whether the minute is ahead of the break of the place."""
        return place not in self.stops or minute < self.stops[place]

    def through(self, row, minute):
        """Return the first minute at which a fire is through a link, or None.

        The row has the numbers of the link, and its place burns from the minute on.
        """
        first = None
        for begin, end, wind in self.spells:
            if first is not None and first <= begin:
                break
            if row[wind] is None or (end is not None and end <= minute):
                continue
            # Within one spell, whoever sets out first is through first.
            passed = max(begin, minute) + row[wind]
            if first is None or passed < first:
                first = passed
        return first

    def catches(self, numbers):
        """Return a dict of the row (place, link, minute) with which each place begins to burn in a fire.

        The link is None where the fire starts. Places that never burn are not there.
        """
        # A start has an empty string as its link, since None cannot be compared where minutes are equal.
        waiting = [(minute, place, "") for place, minute in self.starts]
        heapify(waiting)
        found = {}
        while len(waiting) > 0:
            minute, place, name = heappop(waiting)
            if place in found or not self.is_ahead(minute, place):
                continue
            found[place] = (place, None if name == "" else name, minute)
            for number, link in self.leaving[place]:
                passed = self.through(numbers[number], minute)
                if passed is not None:
                    heappush(waiting, (passed, link[2], link[0]))
        return found

    def first_minutes(self, numbers):
        """Return a dict of the first minute of each place that burns in a fire."""
        return {place: minute for place, _, minute in self.catches(numbers).values()}

    def chain_to(self, caught, place):
        """Return the chain to a place by which the fire with these catches first comes to it."""
        rows = [caught[place]]
        while rows[-1][1] is not None:
            link = self.land.link(rows[-1][1])
            rows.append(caught[link[1]])
        rows.reverse()
        return rows
