"""Lands: winds, places, the links of the fire and the paths of hands."""

from everyfire.errors import InvalidLand, UnknownName

LETTERS = "abcdefghijklmnopqrstuvwxyz"
DIGITS = "0123456789"
LONGEST_NAME = 12
MOST_WINDS = 4
MOST_PLACES = 24
MOST_LINKS = 60
MOST_PATHS = 60
MOST_MINUTES = 1000


def is_name(text):
    """Tell whether the string is a name."""
    if not 1 <= len(text) <= LONGEST_NAME:
        return False
    return text[0] in LETTERS and all([sign in LETTERS or sign in DIGITS for sign in text])


def _check_count(sort, rows, least, most):
    if not least <= len(rows) <= most:
        raise InvalidLand(f"a land has {least} to {most} {sort}, not {len(rows)}")


def _check_names(sort, names):
    for name in names:
        if not is_name(name):
            raise InvalidLand(f"one of the {sort} has no right name: {name}")
    if len(set(names)) != len(names):
        raise InvalidLand(f"two of the {sort} have the same name")


def _check_ends(sort, one, other, places):
    if one not in places or other not in places:
        raise InvalidLand(f"one of the {sort} has an end that is no place: {one} {other}")
    if one == other:
        raise InvalidLand(f"one of the {sort} leads from a place to itself: {one}")


def _as_bounds(bounds):
    """Return the bounds of a link in one wind as the land keeps them."""
    if bounds is None:
        return None
    if len(bounds) != 2:
        raise InvalidLand("bounds have two numbers")
    least, most = bounds
    if not 1 <= least <= most <= MOST_MINUTES:
        raise InvalidLand(f"bounds are not in order from 1 to {MOST_MINUTES}: {least} {most}")
    return (least, most)


def _as_link(link, winds, places):
    """Return a link as a land with these winds and places keeps it."""
    if len(link) != 4:
        raise InvalidLand("a link has four parts")
    name, one, other, times = link
    _check_ends("links", one, other, places)
    if len(times) != len(winds):
        raise InvalidLand(f"a link has not one time for each wind: {name}")
    return (name, one, other, tuple([_as_bounds(bounds) for bounds in times]))


def _as_path(path, places):
    """Return a path as a land with these places keeps it."""
    if len(path) != 3:
        raise InvalidLand("a path has three parts")
    one, other, minutes = path
    _check_ends("paths", one, other, places)
    if not 1 <= minutes <= MOST_MINUTES:
        raise InvalidLand(f"a path takes 1 to {MOST_MINUTES} minutes, not {minutes}")
    return (one, other, minutes)


def _check_single_paths(paths):
    # A path leads both ways, so its ends count without their order.
    ends = [tuple(sorted([one, other])) for one, other, _ in paths]
    if len(set(ends)) != len(ends):
        raise InvalidLand("two paths are between the same two places")


def _is_between(path, one, other):
    return path[:2] == (one, other) or path[:2] == (other, one)


class Land:
    """A land. It does not change: what changes it returns another land."""

    def __init__(self, *, winds, places, links=(), paths=()):
        _check_count("winds", winds, 1, MOST_WINDS)
        _check_names("winds", winds)
        _check_count("places", places, 1, MOST_PLACES)
        _check_names("places", places)
        _check_count("links", links, 0, MOST_LINKS)
        _check_count("paths", paths, 0, MOST_PATHS)
        self.winds = tuple(winds)
        self.places = tuple(places)
        self.links = tuple([_as_link(link, self.winds, self.places) for link in links])
        _check_names("links", self.link_names)
        self.paths = tuple([_as_path(path, self.places) for path in paths])
        _check_single_paths(self.paths)

    @property
    def link_names(self):
        """The tuple of the names of the links, in order."""
        return tuple([link[0] for link in self.links])

    def check_place(self, place):
        """Raise UnknownName if the place is not there."""
        if place not in self.places:
            raise UnknownName(place)

    def check_wind(self, wind):
        """Raise UnknownName if the wind is not there."""
        if wind not in self.winds:
            raise UnknownName(wind)

    def link(self, name):
        """Return the tuple of the link with this name."""
        for link in self.links:
            if link[0] == name:
                return link
        raise UnknownName(name)

    def links_from(self, place):
        """Return the list of the names of the links from the place."""
        self.check_place(place)
        return [link[0] for link in self.links if link[1] == place]

    def links_to(self, place):
        """Return the list of the names of the links to the place."""
        self.check_place(place)
        return [link[0] for link in self.links if link[2] == place]

    def bounds(self, name, wind):
        """Return the bounds of the link in the wind, or None if it is shut."""
        times = self.link(name)[3]
        self.check_wind(wind)
        return times[self.winds.index(wind)]

    def walks_from(self, place):
        """Return the list of (place at the other end, minutes) of the paths of the place."""
        self.check_place(place)
        walks = []
        for one, other, minutes in self.paths:
            if one == place:
                walks.append((other, minutes))
            elif other == place:
                walks.append((one, minutes))
        return walks

    def minutes_between(self, one, other):
        """Return the minutes of the path between the two places, or None."""
        self.check_place(one)
        self.check_place(other)
        for path in self.paths:
            if _is_between(path, one, other):
                return path[2]
        return None

    def with_link(self, link):
        """Return the land with this link, in the place of the one with its name."""
        links = [link if old[0] == link[0] else old for old in self.links]
        if link[0] not in self.link_names:
            links.append(link)
        return Land(winds=self.winds, places=self.places, links=links, paths=self.paths)

    def without_link(self, name):
        """Return the land without this link."""
        left_out = self.link(name)
        links = [link for link in self.links if link != left_out]
        return Land(winds=self.winds, places=self.places, links=links, paths=self.paths)

    def with_place(self, place):
        """Return the land with a further place behind all others."""
        return Land(winds=self.winds, places=[*self.places, place], links=self.links, paths=self.paths)

    def without_place(self, place):
        """Return the land without this place and what begins or ends there."""
        self.check_place(place)
        places = [kept for kept in self.places if kept != place]
        links = [link for link in self.links if link[1] != place and link[2] != place]
        paths = [path for path in self.paths if path[0] != place and path[1] != place]
        return Land(winds=self.winds, places=places, links=links, paths=paths)

    def with_path(self, one, other, minutes):
        """Return the land with this path, in the place of the one between the two places."""
        is_new = self.minutes_between(one, other) is None
        added = (one, other, minutes)
        paths = [added if _is_between(old, one, other) else old for old in self.paths]
        if is_new:
            paths.append(added)
        return Land(winds=self.winds, places=self.places, links=self.links, paths=paths)

    def without_path(self, one, other):
        """Return the land without the path between the two places."""
        if self.minutes_between(one, other) is None:
            raise InvalidLand(f"there is no path between {one} and {other}")
        paths = [path for path in self.paths if not _is_between(path, one, other)]
        return Land(winds=self.winds, places=self.places, links=self.links, paths=paths)
