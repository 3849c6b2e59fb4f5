"""What to pay of a purse: wants (name, pence, last), incomes (day, pence)."""


def can_pay(wants, incomes, names):
    """Whether the wants of these names can all be paid, each by its last day."""
    return short_of([want for want in wants if want[0] in names], incomes) == []


def short_of(wants, incomes):
    """The pairs (day, pence) of those last days by which the wants due by then want more than has come."""
    days = sorted({last for name, pence, last in wants})
    shorts = [(day, due_by(wants, day) - come_by(incomes, day)) for day in days]
    return [(day, pence) for day, pence in shorts if pence > 0]


def due_by(wants, day):
    """The pence of all wants whose last day isn't behind this one."""
    return sum([pence for name, pence, last in wants if last <= day])


def come_by(incomes, day):
    """The pence that have come by the end of that day."""
    return sum([pence for come, pence in incomes if come <= day])


def most_paid(wants, incomes):
    """The first of the longest rising lists of names that can be paid together."""
    most = most_with(wants, incomes, [])
    names = []
    # A name stands in the first of the longest lists just where one as long has it beside those taken ahead of it.
    for name in sorted([want[0] for want in wants]):
        if most_with(wants, incomes, names + [name]) == most:
            names.append(name)
    return names


def most_with(wants, incomes, names):
    """How many wants can be paid together, these names among them, None where these can't."""
    # The least pence for which so many of the wants up to here are paid: of equally many no others are needed.
    least = {0: 0}
    for name, pence, last in sorted(wants, key=lambda want: want[2]):
        come = come_by(incomes, last)
        paid = {many + 1: spent + pence for many, spent in least.items() if spent + pence <= come}
        least = paid if name in names else lesser_of(least, paid)
    return max(list(least), default=None)


def lesser_of(one, other):
    """The lesser of what two dicts have, key by key."""
    return {key: min(one.get(key, other.get(key)), other.get(key, one.get(key))) for key in [*one, *other]}
