"""What the rows of wares tell."""

from partwares.bounds import LAST_DAY

# Words of rows behind which a ware is free, for the time being.
FREEING_WORDS = ("new", "gone", "up", "brought")
HOLDING_WORDS = ("put", "sold")


def fate_of(rows):
    """The list of (first, last, word, who) of the states at the ends of days, by the rows of a ware."""
    begins = []
    for day, state in states_by_days(rows).items():
        if len(begins) == 0 or begins[-1][1] != state:
            begins.append((day, state))
    lasts = [day - 1 for day, state in begins[1:]] + [LAST_DAY]
    return [(first, last, word, who) for (first, (word, who)), last in zip(begins, lasts)]


def states_by_days(rows):
    """The state (word, who) at the end of each day on which there's a row that tells one."""
    states = {}
    for day, word, name, pence in rows:
        if word in FREEING_WORDS:
            states[day] = ("free", "")
        elif word in HOLDING_WORDS:
            states[day] = (word, name)
    return states


def unlike_wares(one, other):
    """The rising list of the wares whose rows are unlike in two worlds."""
    names = sorted(set(one.wares) | set(other.wares))
    return [name for name in names if rows_in(one, name) != rows_in(other, name)]


def rows_in(world, name):
    """The list of the rows of a ware, an empty one where it isn't there."""
    return list(world.wares[name].notes) if name in world.wares else []
