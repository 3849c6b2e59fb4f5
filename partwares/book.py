"""The book: deeds entered, struck and undone, asked as of any day."""

from partwares.bounds import LAST_DAY
from partwares.doings import world_by
from partwares.errors import NoEntry, NoWare
from partwares.fates import fate_of, unlike_wares
from partwares.world import house_named, wares_put


class Book:
    """Entries of days and deeds, and the world that comes of them by the last day."""

    def __init__(self):
        # Tuples (day, number, deed), rising.
        self.noted = []
        # Pairs of a turn's word and its entry, for undo.
        self.turns = []
        self.next_number = 0
        self.world = world_by([], LAST_DAY)

    def enter(self, day, deed):
        """Enters a deed; tells the pair (number, wares)."""
        entry = (day, self.next_number, deed)
        self.next_number += 1
        self.turns.append(("enter", entry))
        return (entry[1], self.renew(self.noted + [entry]))

    def strike(self, number):
        """Strikes an entry; tells the wares whose rows are unlike then."""
        struck = [entry for entry in self.noted if entry[1] == number]
        if len(struck) == 0:
            raise NoEntry("there's no such entry")
        self.turns.append(("strike", struck[0]))
        return self.renew(self.without(number))

    def undo(self):
        """Undoes the last enter or strike; tells the wares whose rows are unlike then."""
        if len(self.turns) == 0:
            raise NoEntry("there's nothing to undo")
        word, entry = self.turns.pop()
        if word == "strike":
            return self.renew(self.noted + [entry])
        self.next_number = entry[1]
        return self.renew(self.without(entry[1]))

    def entries(self):
        """The list of (day, number, deed), rising by days, then numbers."""
        return list(self.noted)

    def twin(self):
        """A Book of its own, the same, with what can be undone."""
        book = Book()
        book.turns = list(self.turns)
        book.next_number = self.next_number
        book.renew(self.noted)
        return book

    def voids(self):
        """The list of (number, word) of void deeds, by numbers."""
        return sorted(self.world.voided.items())

    def rows(self, ware):
        """The list of (day, word, name, pence) of what was done with a ware."""
        if ware not in self.world.wares:
            raise NoWare("there's no such ware")
        return list(self.world.wares[ware].notes)

    def fate(self, ware):
        """The list of (first, last, word, who), as long as can be, to the last day."""
        return fate_of(self.rows(ware))

    def state(self, ware, day=LAST_DAY):
        """The pair (word, who) of fate."""
        states = [(word, who) for first, last, word, who in self.fate(ware) if first <= day]
        if len(states) == 0:
            raise NoWare("there's no such ware by then")
        return states[-1]

    def stands(self, day=LAST_DAY):
        """The list of (ware, who, paid, price, last) of all put by, rising."""
        return [
            (ware.name, ware.who, ware.putby.paid(), ware.putby.price(), ware.putby.last_day())
            for ware in wares_put(self.as_of(day))
        ]

    def house_of(self, ware, day=LAST_DAY):
        """The house in which a ware is."""
        houses = [name for told, word, name, pence in self.rows(ware) if told <= day and word in ("new", "handed")]
        if len(houses) == 0:
            raise NoWare("there's no such ware by then")
        return houses[-1]

    def waits(self, house, kind, day=LAST_DAY):
        """The list of who waits for a kind in a house, in order."""
        return list(house_named(self.as_of(day), house).waiting.get(kind, []))

    def __eq__(self, other):
        return isinstance(other, Book) and self.dated_deeds() == other.dated_deeds()

    def __len__(self):
        return len(self.noted)

    def __repr__(self):
        return f"Book({len(self.noted)} entries, {len(self.world.wares)} wares)"

    def dated_deeds(self):
        """The list of (day, deed), in the order of the entries."""
        return [(day, deed) for day, number, deed in self.noted]

    def as_of(self, day):
        """The world at the end of that day, to be read only."""
        return self.world if day == LAST_DAY else world_by(self.noted, day)

    def without(self, number):
        """The entries but the one of that number."""
        return [entry for entry in self.noted if entry[1] != number]

    def renew(self, entries):
        """Takes these entries; tells the wares whose rows are unlike then."""
        ahead = self.world
        self.noted = sorted(entries)
        self.world = world_by(self.noted, LAST_DAY)
        return unlike_wares(ahead, self.world)
