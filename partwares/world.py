"""Houses and wares as they are at some time, and what may come of a ware."""

from partwares.errors import NoHouse
from partwares.putbys import Putby


class House:
    """A house: its rule, its prices and those who wait by kinds, its till, and what it owes by houses."""

    def __init__(self, rule):
        self.rule = rule
        self.shut = False
        self.prices = {}
        self.waiting = {}
        self.till = 0
        self.earned = 0
        self.debts = {}


class Ware:
    """A ware: while it is put by or sold it has a Putby, and one for whom it is; its notes are its rows."""

    def __init__(self, name, kind, house):
        self.name = name
        self.kind = kind
        self.house = house
        self.who = ""
        self.putby = None
        self.sold_in = ""
        self.notes = []


class World:
    """All houses and wares by their names, and the words of void deeds by the numbers of their entries."""

    def __init__(self):
        self.houses = {}
        self.wares = {}
        self.voided = {}


def house_named(world, name):
    """The house of that name; refused with NoHouse."""
    if name not in world.houses:
        raise NoHouse("there's no such house by then")
    return world.houses[name]


def word_of(ware):
    """Whether a ware is "free", "put" or "sold"."""
    if ware.putby is None:
        return "free"
    return "put" if ware.putby.state()[0] == "stands" else "sold"


def wares_put(world):
    """The list of all wares put by, by rising names."""
    return [world.wares[name] for name in sorted(world.wares) if word_of(world.wares[name]) == "put"]


def wares_in(world, house):
    """The list of all wares of a house, by rising names."""
    return [world.wares[name] for name in sorted(world.wares) if world.wares[name].house == house]


def wares_of_kind(world, house, kind, word):
    """The list of those wares of a kind in a house that are free, put or sold, by rising names."""
    return [ware for ware in wares_in(world, house) if ware.kind == kind and word_of(ware) == word]


def paid_in_house(world, house):
    """What is paid on the wares put by in a house."""
    return sum([ware.putby.paid() for ware in wares_in(world, house) if word_of(ware) == "put"])


def next_parts_of(world, who):
    """The wants (ware, pence, last) of the next parts of all wares put by for who, those of no pence left aside."""
    wares = [ware for ware in wares_put(world) if ware.who == who]
    wants = [(ware.name, ware.putby.next_part(), ware.putby.last_day()) for ware in wares]
    return [want for want in wants if want[1] > 0]


def note(ware, day, word, name, pence):
    """Notes a row of what was done with a ware."""
    ware.notes.append((day, word, name, pence))


def put_by(world, day, ware, who):
    """Puts a free ware by for who, at the price of its kind in its house."""
    house = world.houses[ware.house]
    price = house.prices[ware.kind]
    ware.putby = Putby(house.rule, price, day)
    ware.who = who
    note(ware, day, "put", who, price)


def put_by_next(world, day, ware):
    """Puts a free ware by for the first who waits for it, if there's any."""
    waiting = world.houses[ware.house].waiting.get(ware.kind, [])
    if len(waiting) > 0:
        put_by(world, day, ware, waiting.pop(0))


def set_free(world, day, ware):
    """Frees a ware, which goes at once to the first who waits for it."""
    ware.putby = None
    ware.who = ""
    put_by_next(world, day, ware)


def pay_back(world, ware, backs):
    """Pays the rows of backs out of the till of the house in which the ware is."""
    house = world.houses[ware.house]
    for day, who, pence in backs:
        house.till -= pence
        note(ware, day, "back", who, pence)


def owe(world, house, other, pence):
    """Lets house owe other so much more."""
    debtor = world.houses[house]
    debtor.debts[other] = debtor.debts.get(other, 0) + pence


def note_end(world, ware):
    """Does what comes of a ware whose Putby has ended: sold, given up or gone."""
    word, day = ware.putby.state()
    house = world.houses[ware.house]
    house.earned += ware.putby.kept()
    note(ware, day, word, ware.who, ware.putby.kept())
    pay_back(world, ware, ware.putby.backs())
    if word == "sold":
        ware.sold_in = ware.house
    else:
        set_free(world, day, ware)
