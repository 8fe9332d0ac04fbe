"""The book: lands and cases under names, with changes that can be taken back and made again."""

from everyfire.errors import EveryfireError, InvalidQuestion, NameInUse, NothingToRedo, NothingToUndo, UnknownName
from everyfire.fires import states
from everyfire.questions import ask

MOST_STARTS = 40
MOST_BREAKS = 40


class Entry:
    """An entry of a case: what it is made of, and its states, which are None as long as nobody asked for them."""

    def __init__(self, land_name, weather, starts, breaks):
        self.land_name = land_name
        self.weather = tuple([tuple(row) for row in weather])
        self.starts = tuple([tuple(row) for row in starts])
        self.breaks = tuple([tuple(row) for row in breaks])
        self.told = None


class Change:
    """One change: what stood under a name in a table, and what stands there now. None is for nothing."""

    def __init__(self, table, name, before, after):
        self.table = table
        self.name = name
        self.before = before
        self.after = after

    def make(self):
        """Put what stands there now."""
        self._put(self.after)

    def take_back(self):
        """Put what stood there before."""
        self._put(self.before)

    def _put(self, thing):
        if thing is None:
            del self.table[self.name]
        else:
            self.table[self.name] = thing


class Book:
    """A book of lands and cases, which has nothing in it at first."""

    def __init__(self):
        self.decided = 0
        self.kept = 0
        self.lands = {}
        self.cases = {}
        self.done = []
        self.undone = []

    def set_land(self, name, land):
        """Set a land under a name that no land has."""
        if name in self.lands:
            raise NameInUse(name)
        self._change(self.lands, name, land)

    def remove_land(self, name):
        """Remove a land that no case has."""
        if name not in self.lands:
            raise UnknownName(name)
        if any([entry.land_name == name for entry in self.cases.values()]):
            raise NameInUse(name)
        self._change(self.lands, name, None)

    def set_case(self, name, land_name, weather, starts, breaks):
        """Set a case, or replace the one of this name."""
        ask(self.land(land_name), weather, starts, breaks)
        if len(starts) > MOST_STARTS or len(breaks) > MOST_BREAKS:
            raise InvalidQuestion(f"a case has at most {MOST_STARTS} starts and {MOST_BREAKS} breaks")
        self._change(self.cases, name, Entry(land_name, weather, starts, breaks))

    def remove_case(self, name):
        """Remove a case."""
        self._entry(name)
        self._change(self.cases, name, None)

    def add_start(self, name, place, minute):
        """Add a start to a case behind the others."""
        entry = self._entry(name)
        self.set_case(name, entry.land_name, entry.weather, [*entry.starts, (place, minute)], entry.breaks)

    def add_break(self, name, place, minute):
        """Add a break to a case behind the others."""
        entry = self._entry(name)
        self.set_case(name, entry.land_name, entry.weather, entry.starts, [*entry.breaks, (place, minute)])

    def drop_breaks(self, name, place):
        """Drop all breaks of the place from a case."""
        entry = self._entry(name)
        self.land(entry.land_name).check_place(place)
        others = [row for row in entry.breaks if row[0] != place]
        self.set_case(name, entry.land_name, entry.weather, entry.starts, others)

    def undo(self):
        """Take back the last change that is not taken back."""
        if len(self.done) == 0:
            raise NothingToUndo("there is no change to take back")
        change = self.done.pop()
        change.take_back()
        self.undone.append(change)

    def redo(self):
        """Make the change again that was taken back last."""
        if len(self.undone) == 0:
            raise NothingToRedo("there is no change to make again")
        change = self.undone.pop()
        change.make()
        self.done.append(change)

    def change_all(self, changes):
        """Make several changes, each told by the name of its method and its arguments, or none of them."""
        many = len(self.done)
        undone = self.undone
        try:
            for word, *told in changes:
                make = self._method(word)
                make(*told)
        except EveryfireError:
            while len(self.done) > many:
                self.undo()
            self.undone = undone
            raise

    def land_names(self):
        """Return the list of the names of the lands, in ascending order."""
        return sorted(self.lands)

    def case_names(self):
        """Return the list of the names of the cases, in ascending order."""
        return sorted(self.cases)

    def land(self, name):
        """Return the land with this name."""
        if name not in self.lands:
            raise UnknownName(name)
        return self.lands[name]

    def case(self, name):
        """Return the tuple (name of the land, weather, starts, breaks) of a case."""
        entry = self._entry(name)
        return (entry.land_name, entry.weather, entry.starts, entry.breaks)

    def answers(self, name):
        """Return the list of (place, state) of a case."""
        return list(self._states_of(self._entry(name)))

    def answer(self, name, place):
        """Return the state of a place in a case."""
        entry = self._entry(name)
        self.land(entry.land_name).check_place(place)
        return dict(self._states_of(entry))[place]

    def _entry(self, name):
        if name not in self.cases:
            raise UnknownName(name)
        return self.cases[name]

    def _states_of(self, entry):
        """Return the states of an entry, and count whether they were there already."""
        if entry.told is None:
            entry.told = states(self.land(entry.land_name), entry.weather, entry.starts, entry.breaks)
            self.decided += 1
        else:
            self.kept += 1
        return entry.told

    def _change(self, table, name, thing):
        change = Change(table, name, table.get(name), thing)
        change.make()
        self.done.append(change)
        # A new list, since change_all may need the one that was there.
        self.undone = []

    def _method(self, word):
        """Return the method of a change by its name."""
        methods = {
            "set_land": self.set_land, "remove_land": self.remove_land, "set_case": self.set_case,
            "remove_case": self.remove_case, "add_start": self.add_start, "add_break": self.add_break,
            "drop_breaks": self.drop_breaks,
        }
        return methods[word]
