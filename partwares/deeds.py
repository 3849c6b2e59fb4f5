"""Deeds: tuples of a word and the things that it is done with."""

from partwares.bounds import MOST_PRICE
from partwares.errors import BadClause
from partwares.ruletexts import read_rule
from partwares.words import is_name, is_number_in

# The sorts of the things behind each word, in order.
FORMS = {
    "house": ("house", "text"),
    "price": ("house", "kind", "price"),
    "ware": ("ware", "kind", "house"),
    "put": ("house", "kind", "who"),
    "pay": ("ware", "who"),
    "up": ("ware",),
    "leave": ("house", "kind", "who"),
    "bring": ("ware",),
    "hand": ("house", "house"),
    "settle": ("house", "house", "debt"),
}
NAMED_SORTS = ("house", "kind", "ware", "who")
MOST_DEBT = 10 ** 8


def is_deed(thing):
    """Whether thing is a deed."""
    if not isinstance(thing, tuple) or len(thing) == 0 or not isinstance(thing[0], str) or thing[0] not in FORMS:
        return False
    sorts = FORMS[thing[0]]
    things = thing[1:]
    if len(things) != len(sorts) or not all([is_of_sort(one, sort) for one, sort in zip(things, sorts)]):
        return False
    houses = [name for sort, name in names_in(thing) if sort == "house"]
    return len(set(houses)) == len(houses)


def is_of_sort(thing, sort):
    """Whether thing may stand where a deed has one of that sort."""
    if sort == "text":
        return isinstance(thing, str) and is_rule_text(thing)
    if sort == "price":
        return is_number_in(thing, 1, MOST_PRICE)
    if sort == "debt":
        return is_number_in(thing, 1, MOST_DEBT)
    return is_name(thing)


def is_rule_text(text):
    """Whether a text is a rule's."""
    try:
        read_rule(text)
    except BadClause:
        return False
    return True


def names_in(deed):
    """The list of pairs (sort, name) of a deed, in order."""
    return [(sort, name) for sort, name in zip(FORMS[deed[0]], deed[1:]) if sort in NAMED_SORTS]
