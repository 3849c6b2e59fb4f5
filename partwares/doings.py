"""What each deed does; a deed that can't be done tells the word by which it is void."""

from partwares.ruletexts import read_rule
from partwares.world import (
    House, Ware, World, note, note_end, owe, pay_back, put_by, put_by_next, set_free, wares_in, wares_of_kind,
    wares_put, word_of,
)


def void_by_houses(world, names):
    """The word by which a deed that needs these houses is void, None where all are there and none is shut."""
    if not all([name in world.houses for name in names]):
        return "none"
    if any([world.houses[name].shut for name in names]):
        return "shut"
    return None


def void_by_ware(world, name, word):
    """The word by which a deed is void that needs a ware that is put by, or sold, None where it is so."""
    if name not in world.wares:
        return "none"
    if word_of(world.wares[name]) != word:
        return "idle"
    return None


def do_house(world, day, house, text):
    """A new house."""
    if house in world.houses:
        return "taken"
    world.houses[house] = House(read_rule(text))
    return None


def do_price(world, day, house, kind, pence):
    """The price of a kind, which may fall to wares put by."""
    word = void_by_houses(world, [house])
    if word is not None:
        return word
    prices = world.houses[house].prices
    is_less = kind in prices and pence < prices[kind]
    prices[kind] = pence
    if is_less:
        for ware in wares_of_kind(world, house, kind, "put"):
            let_price_fall(world, day, ware, pence)
    return None


def let_price_fall(world, day, ware, pence):
    """Lets the price fall to a ware put by, if its rule says so."""
    ahead = ware.putby.price()
    ware.putby.price_falls(day, pence)
    if ware.putby.price() < ahead:
        note(ware, day, "price", ware.who, pence)
    if word_of(ware) == "sold":
        note_end(world, ware)


def do_ware(world, day, ware, kind, house):
    """A new ware."""
    if ware in world.wares:
        return "taken"
    word = void_by_houses(world, [house])
    if word is not None:
        return word
    fresh = Ware(ware, kind, house)
    world.wares[ware] = fresh
    note(fresh, day, "new", house, 0)
    put_by_next(world, day, fresh)
    return None


def do_put(world, day, house, kind, who):
    """The first free ware is put by, or who waits."""
    word = void_by_houses(world, [house])
    if word is None and kind not in world.houses[house].prices:
        word = "none"
    if word is not None:
        return word
    free = wares_of_kind(world, house, kind, "free")
    if len(free) > 0:
        put_by(world, day, free[0], who)
    else:
        waiting = world.houses[house].waiting
        waiting[kind] = waiting.get(kind, []) + [who]
    return None


def do_pay(world, day, ware, who):
    """The next part is paid."""
    word = void_by_ware(world, ware, "put")
    if word is not None:
        return word
    paid = world.wares[ware]
    pence = paid.putby.pay(day, who)
    house = world.houses[paid.house]
    house.till += pence
    note(paid, day, "paid", who, pence)
    if word_of(paid) == "sold":
        note_end(world, paid)
    return None


def do_up(world, day, ware):
    """A ware put by is given up."""
    word = void_by_ware(world, ware, "put")
    if word is not None:
        return word
    world.wares[ware].putby.give_up(day)
    note_end(world, world.wares[ware])
    return None


def do_leave(world, day, house, kind, who):
    """The first place of who among those who wait is given up."""
    if house not in world.houses:
        return "none"
    waiting = world.houses[house].waiting.get(kind, [])
    if who not in waiting:
        return "none"
    waiting.remove(who)
    return None


def do_bring(world, day, ware):
    """A sold ware is brought back."""
    word = void_by_ware(world, ware, "sold")
    if word is not None:
        return word
    brought = world.wares[ware]
    putby = brought.putby
    if day - putby.state()[1] > putby.rule.back:
        return "late"
    note(brought, day, "brought", brought.who, putby.price())
    pay_back(world, brought, putby.refunds(day))
    seller = world.houses[brought.sold_in]
    seller.earned -= putby.price()
    if brought.sold_in != brought.house:
        owe(world, brought.sold_in, brought.house, putby.price())
    set_free(world, day, brought)
    return None


def do_hand(world, day, house, other):
    """All that a house has goes to the other one; what is paid on wares put by it owes."""
    word = void_by_houses(world, [house, other])
    if word is not None:
        return word
    for ware in wares_in(world, house):
        paid = ware.putby.paid() if word_of(ware) == "put" else 0
        owe(world, house, other, paid)
        ware.house = other
        note(ware, day, "handed", other, paid)
    move_trade(world.houses[house], world.houses[other])
    for kind in sorted(world.houses[other].waiting):
        for ware in wares_of_kind(world, other, kind, "free"):
            put_by_next(world, day, ware)
    return None


def move_trade(house, other):
    """Moves prices and those who wait to the other house, and shuts this one."""
    other.prices = {**house.prices, **other.prices}
    other.waiting = {
        kind: other.waiting.get(kind, []) + house.waiting.get(kind, []) for kind in [*other.waiting, *house.waiting]
    }
    house.prices = {}
    house.waiting = {}
    house.shut = True


def do_settle(world, day, house, other, pence):
    """A house pays so much of what it owes."""
    if house not in world.houses or other not in world.houses:
        return "none"
    payer = world.houses[house]
    if pence > payer.debts.get(other, 0):
        return "much"
    owe(world, house, other, -pence)
    payer.till -= pence
    payee = world.houses[other]
    payee.till += pence
    return None


DOINGS = {
    "house": do_house,
    "price": do_price,
    "ware": do_ware,
    "put": do_put,
    "pay": do_pay,
    "up": do_up,
    "leave": do_leave,
    "bring": do_bring,
    "hand": do_hand,
    "settle": do_settle,
}


def do_deed(world, day, deed):
    """Does a deed; tells the word by which it is void, else None."""
    word, *things = deed
    action = DOINGS[word]
    return action(world, day, *things)


def world_by(entries, end):
    """The world at the end of day end, by entries (day, number, deed) that rise by days and numbers."""
    world = World()
    for day, number, deed in entries:
        if day <= end:
            pass_mornings(world, day)
            word = do_deed(world, day, deed)
            if word is not None:
                world.voided[number] = word
    pass_mornings(world, end)
    return world


def pass_mornings(world, end):
    """Lets go each ware that is gone by the morning of day end, day by day, by rising names."""
    ware = first_to_go(world)
    while ware is not None and ware.putby.would_go(end):
        ware.putby.pass_to(ware.putby.last_day() + 1)
        # One who waits may have it now, and it may go from him, too.
        note_end(world, ware)
        ware = first_to_go(world)


def first_to_go(world):
    """The ware put by that is gone first were nothing done any more, None where none is put by."""
    return min(wares_put(world), key=order_of_going, default=None)


def order_of_going(ware):
    """That by which wares are gone: the day, then the name."""
    return (ware.putby.last_day(), ware.name)
