"""The clauses of a rule's text, as they are written."""


def clauses_of(figures):
    """The list of the clauses of a rule of these nine figures, keep being a tuple."""
    parts, step, grace, last, misses, keep, fine, falls, back = figures
    clauses = [
        f"{parts} parts by {step} days",
        counted("grace", grace),
        "from last" if last else "",
        counted("misses", misses),
        kept_clause(keep),
        counted("fine", fine),
        counted("falls", falls),
        counted("back", back),
    ]
    return [clause for clause in clauses if clause != ""]


def counted(word, number):
    """The clause of a word and its number, the empty text of nought."""
    if number == 0:
        return ""
    return f"{word} {number}"


def kept_clause(keep):
    """The clause of keep: one number where all are the same, else all of them."""
    if len(set(keep)) == 1:
        return counted("keep", keep[0])
    numbers = " ".join([str(number) for number in keep])
    return f"keep {numbers}"
