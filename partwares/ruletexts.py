"""The text of a rule, told and read."""

from partwares.errors import BadClause, BadRule
from partwares.rules import Rule
from partwares.words import number_in

COUNTED_WORDS = ("grace", "misses", "keep", "fine", "falls", "back")
# No figure of a rule is above it; where the bound is narrower, Rule itself refuses it.
MOST_FIGURE = 100


def rule_text(rule):
    """The text of a rule: its clauses, those left out that are nought."""
    return str(rule)


def read_rule(text):
    """The Rule of which rule_text tells just this text; refused with BadClause."""
    clauses = text.split(", ")
    figures = {}
    rule = None
    for place, clause in enumerate(clauses):
        figures.update(figures_in(clause))
        rule = rule_of(figures)
        # What is nought, told twice or out of its order is not told again as it stands here.
        if rule is None or rule_text(rule) != ", ".join(clauses[:place + 1]):
            raise BadClause(place)
    return rule


def figures_in(clause):
    """The figures of a clause by their names: None in the place of a number that is none, nothing of another form."""
    if clause == "from last":
        return {"last": True}
    pieces = clause.split(" ")
    numbers = [number_in(piece, MOST_FIGURE) for piece in pieces]
    if len(pieces) == 5 and [pieces[1], pieces[2], pieces[4]] == ["parts", "by", "days"]:
        return {"parts": numbers[0], "step": numbers[3]}
    if len(pieces) == 2 and pieces[0] in COUNTED_WORDS:
        return {pieces[0]: numbers[1]}
    if pieces[0] == "keep":
        return {"keep": tuple(numbers[1:])}
    return {}


def rule_of(figures):
    """The Rule of figures by their names, None where there is no such rule."""
    if "parts" not in figures:
        return None
    try:
        return Rule(**figures)
    except BadRule:
        return None
