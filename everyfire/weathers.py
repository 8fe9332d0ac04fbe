"""Weathers: which wind blows from which minute on."""

from everyfire.errors import InvalidWeather

MOST_ROWS = 40
LAST_CHANGE = 100000


def check_weather(land, weather):
    """Raise UnknownName for the first strange wind, then InvalidWeather for another broken rule."""
    check_winds(land, weather)
    check_rows(weather)


def check_winds(land, weather):
    """Raise UnknownName for the first wind that the land does not have."""
    for _, wind in weather:
        land.check_wind(wind)


def check_rows(weather):
    """Raise InvalidWeather if there are too few or too many rows or their minutes are wrong."""
    if not 1 <= len(weather) <= MOST_ROWS:
        raise InvalidWeather(f"a weather has 1 to {MOST_ROWS} rows, not {len(weather)}")
    minutes = [minute for minute, _ in weather]
    if minutes[0] != 0:
        raise InvalidWeather(f"a weather begins at minute 0, not {minutes[0]}")
    for before, behind in zip(minutes, minutes[1:]):
        if behind <= before:
            raise InvalidWeather(f"the minute {behind} stands behind the minute {before}")
    if minutes[-1] > LAST_CHANGE:
        raise InvalidWeather(f"the wind changes above {LAST_CHANGE}: {minutes[-1]}")


def wind_at(land, weather, minute):
    """Return the name of the wind that blows at the minute."""
    check_weather(land, weather)
    blowing = weather[0][1]
    for begin, wind in weather:
        if begin <= minute:
            blowing = wind
    return blowing


def spells_of(land, weather):
    """Return the list of (begin, end, number of the wind) of a weather that keeps the rules.

    A wind does not blow any more at its end. The last wind has None as its end.
    """
    ends = [minute for minute, _ in weather[1:]] + [None]
    return [(begin, end, land.winds.index(wind)) for (begin, wind), end in zip(weather, ends)]
