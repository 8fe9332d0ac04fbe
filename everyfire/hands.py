"""Hands who walk and cut: where they are, what they break, and whether any fire can meet them."""

from itertools import permutations

from everyfire.errors import InvalidPlan, InvalidQuestion
from everyfire.fires import least_numbers
from everyfire.lands import MOST_MINUTES, is_name
from everyfire.questions import ask, least_minutes
from everyfire.walks import quickest_walks

MOST_HANDS = 5
MOST_DEEDS = 30
MOST_CUT = 5
WALK = "walk"
CUT = "cut"
WAIT = "wait"


class Course:
    """What hands do: their stays, their cuts (place, minute when it is ready), and the end of their last deed."""

    def __init__(self):
        self.stays = []
        self.cuts = []
        self.end = 0

    def follow(self, land, number, hand):
        """Add what the hand with this number does."""
        name, place, deeds = hand
        since = 0
        now = 0
        for word, told in deeds:
            if word == WALK:
                minutes = land.minutes_between(place, told)
                if minutes is None:
                    raise InvalidPlan(number)
                self.stays.append((name, place, since, now))
                now += minutes
                place = told
                since = now
            else:
                now += told
                if word == CUT:
                    self.cuts.append((place, now))
        self.stays.append((name, place, since, None))
        self.end = max(self.end, now)

    def breaks_in(self, land):
        """Return the list of the breaks, in the order of the places of the land."""
        ready = least_minutes(self.cuts)
        return [(place, ready[place]) for place in land.places if place in ready]

    def dangers_among(self, burns):
        """Return the list of (name, place, minute) of the stays in danger, with the first minutes of the places."""
        return [
            (name, place, max(since, burns[place])) for name, place, since, until in self.stays
            if place in burns and _meets(burns[place], since, until)
        ]


def _meets(minute, since, until):
    """Tell whether a stay is in danger at a place that burns from the minute on."""
    # A stay may have no length, so that it is over at the very minute at which it begins.
    return minute <= since or until is None or minute < until


class Order:
    """An order of places, and the minute at which its errand ends."""

    def __init__(self, places, minute):
        self.places = tuple(places)
        self.minute = minute


class Errands:
    """The errands of one land, for which each quickest walk is looked for once."""

    def __init__(self, land):
        self.land = land
        self.walks = {}

    def deeds_of(self, home, order, minutes):
        """Return the list of the deeds of an errand, or None if some walk does not exist."""
        deeds = []
        here = home
        for place in order:
            walk = self._walk(here, place)
            if walk is None:
                return None
            deeds.extend([(WALK, step) for step in walk[1:]])
            deeds.append((CUT, minutes))
            here = place
        return deeds

    def _walk(self, one, other):
        if (one, other) not in self.walks:
            self.walks[(one, other)] = quickest(self.land, one, other)
        return self.walks[(one, other)]


def stays(land, hands):
    """Return the list of (name, place, since, until), hand by hand; a stay without an end has None as its until."""
    return _course_of(land, hands).stays


def breaks_of(land, hands):
    """Return the list of (place, least minute at which a cut there is ready)."""
    return _course_of(land, hands).breaks_in(land)


def end_of(land, hands):
    """Return the minute at which the last deed of the hands is over."""
    return _course_of(land, hands).end


def dangers(land, weather, starts, hands):
    """Return the list of (name, place, minute of the danger) of the stays in danger."""
    course = _course_of(land, hands)
    return course.dangers_among(_burns(ask(land, weather, starts, course.breaks_in(land))))


def is_safe(land, weather, starts, hands):
    """Tell whether no stay is in danger."""
    return len(dangers(land, weather, starts, hands)) == 0


def keeps(land, weather, starts, hands, place):
    """Tell whether the hands are safe and the place never burns with their breaks."""
    land.check_place(place)
    course = _course_of(land, hands)
    burns = _burns(ask(land, weather, starts, course.breaks_in(land)))
    return place not in burns and len(course.dangers_among(burns)) == 0


def quickest(land, one, other):
    """Return the list of the places of the quickest walk, or None."""
    land.check_place(one)
    land.check_place(other)
    walks = quickest_walks(land, one, 0, {})
    if other not in walks:
        return None
    return list(walks[other][1])


def errand(land, home, order, minutes):
    """Return the list of the deeds of one hand that cuts some places in this order, or None."""
    return Errands(land).deeds_of(home, order, minutes)


def best_order(land, weather, starts, home, places, minutes, kept):
    """Return the Order of the places whose errand is safe, keeps the places to be kept and ends earliest, or None."""
    for place in [home, *places, *kept]:
        land.check_place(place)
    if len(places) > MOST_CUT or len(set(places)) != len(places) or not 1 <= minutes <= MOST_MINUTES:
        raise InvalidQuestion(f"at most {MOST_CUT} different places are cut, in 1 to {MOST_MINUTES} minutes each")
    question = ask(land, weather, starts, [])
    errands = Errands(land)
    best = None
    for order in permutations(places):
        deeds = errands.deeds_of(home, order, minutes)
        if deeds is None or len(deeds) > MOST_DEEDS:
            continue
        course = Course()
        course.follow(land, 0, ("hand", home, deeds))
        if (best is None or course.end < best.minute) and _does(question, course, kept):
            best = Order(order, course.end)
    return best


def _does(question, course, kept):
    """Tell whether a course is safe and keeps some places in a question that has no breaks."""
    burns = _burns(question.with_breaks(course.cuts))
    return len(course.dangers_among(burns)) == 0 and not any([place in burns for place in kept])


def _burns(question):
    """Return a dict of the first minutes of the places in the fastest fire."""
    return question.first_minutes(least_numbers(question.land))


def _course_of(land, hands):
    """Return the Course of the hands, once all that the hands are told with is looked at."""
    _check_names(hands)
    _check_places(land, hands)
    _check_deeds(hands)
    course = Course()
    for number, hand in enumerate(hands):
        course.follow(land, number, hand)
    return course


def _check_names(hands):
    names = [name for name, _, _ in hands]
    if len(hands) > MOST_HANDS:
        raise InvalidQuestion(f"there are at most {MOST_HANDS} hands, not {len(hands)}")
    if len(set(names)) != len(names) or not all([is_name(name) for name in names]):
        raise InvalidQuestion("two hands have the same name, or one has no right name")


def _check_places(land, hands):
    for _, place, deeds in hands:
        land.check_place(place)
        for deed in deeds:
            if deed[0] == WALK:
                land.check_place(deed[1])


def _check_deeds(hands):
    for name, _, deeds in hands:
        if len(deeds) > MOST_DEEDS:
            raise InvalidQuestion(f"a hand does at most {MOST_DEEDS} deeds: {name} {len(deeds)}")
        if not all([_is_deed(deed) for deed in deeds]):
            raise InvalidQuestion(f"a hand does what is no deed: {name}")


def _is_deed(deed):
    if deed[0] in (CUT, WAIT):
        return 1 <= deed[1] <= MOST_MINUTES
    return deed[0] == WALK
