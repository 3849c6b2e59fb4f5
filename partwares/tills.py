"""What is in the tills of a book's houses, what they owe, and what people paid."""

from partwares.bounds import LAST_DAY
from partwares.fates import unlike_wares
from partwares.world import house_named, paid_in_house


def till_of(book, house, day=LAST_DAY):
    """The pence in the till of a house."""
    return house_named(book.as_of(day), house).till


def owed_by(book, house, other, day=LAST_DAY):
    """What house owes other."""
    world = book.as_of(day)
    debtor = house_named(world, house)
    house_named(world, other)
    return debtor.debts.get(other, 0)


def sums_of(book, day=LAST_DAY):
    """The list of (house, till, paid, earned, owed, owes), by houses rising."""
    world = book.as_of(day)
    return [sums_of_house(world, house) for house in sorted(world.houses)]


def sums_of_house(world, house):
    """The tuple (house, till, paid, earned, owed, owes) of a house."""
    told = world.houses[house]
    owed = sum([world.houses[other].debts.get(house, 0) for other in world.houses])
    owes = sum([pence for other, pence in told.debts.items()])
    return (house, told.till, paid_in_house(world, house), told.earned, owed, owes)


def people_of(book, day=LAST_DAY):
    """The list of (who, paid, back) of all by whom there is a payment, rising."""
    world = book.as_of(day)
    paid = pence_by_names(world, "paid")
    back = pence_by_names(world, "back")
    return [(who, paid[who], back.get(who, 0)) for who in sorted(paid)]


def pence_by_names(world, word):
    """The pence of all rows of that word, by the names in them."""
    pence_of = {}
    for ware in world.wares.values():
        for day, told, name, pence in ware.notes:
            if told == word:
                pence_of[name] = pence_of.get(name, 0) + pence
    return pence_of


def parting(one, other):
    """The rising list of the wares whose rows are unlike in two books."""
    return unlike_wares(one.as_of(LAST_DAY), other.as_of(LAST_DAY))
