"""Answers: which rows fit a condition, and in which order a question tells them."""

# Where the fields of a row stand in its tuple (depth, name, text, done, whom, folded).
DEPTH = 0
NAME = 1
TEXT = 2
DONE = 3
WHOM = 4
FOLDED = 5


def fitting(condition, rows):
    word = condition[0]
    if word == "or":
        parts = [fitting(part, rows) for part in condition[1]]
        return [any(truths_at(parts, at)) for at in range(len(rows))]
    if word == "and":
        parts = [fitting(part, rows) for part in condition[1]]
        return [all(truths_at(parts, at)) for at in range(len(rows))]
    if word == "not":
        return [not fits for fits in fitting(condition[1], rows)]
    if word == "leaf":
        return [is_leaf(rows, at) for at in range(len(rows))]
    if word == "beneath":
        return are_under([row[NAME] == condition[1] for row in rows], rows)
    if word == "seen":
        return [not under for under in are_under([row[FOLDED] for row in rows], rows)]
    return [fits_alone(condition, row) for row in rows]


def truths_at(parts, at):
    return [truths[at] for truths in parts]


def is_leaf(rows, at):
    return at + 1 == len(rows) or rows[at + 1][DEPTH] <= rows[at][DEPTH]


def are_under(tops, rows):
    # Whether each row is beneath one that is a top; a top beneath another one brings nothing new.
    truths = []
    above = None
    for row, is_top in zip(rows, tops):
        if above is not None and row[DEPTH] <= above:
            above = None
        truths.append(above is not None)
        if is_top and above is None:
            above = row[DEPTH]
    return truths


def fits_alone(condition, row):
    word = condition[0]
    if word == "done":
        return row[DONE]
    if word == "folded":
        return row[FOLDED]
    if word == "free":
        return row[WHOM] is None
    if word == "due":
        return row[WHOM] == condition[1]
    if word == "depth":
        return row[DEPTH] <= condition[1]
    if word == "says":
        return condition[1] in row[TEXT]
    return True


def asked(question, rows):
    key = question[1]
    told = [row for row, fits in zip(rows, fitting(question[0], rows)) if fits]
    if key == "place":
        return list(reversed(told)) if question[2] else told
    # Turned by Python's own sorting, rows alike by the key stay in their order too.
    if question[2]:
        return sorted(told, key=lambda row: sort_value(key, row), reverse=True)
    return sorted(told, key=lambda row: sort_value(key, row))


def sort_value(key, row):
    if key == "text":
        return row[TEXT]
    if key == "size":
        return len(row[TEXT])
    if key == "depth":
        return row[DEPTH]
    # Nobody is greater than any hand.
    return (row[WHOM] is None, 0 if row[WHOM] is None else row[WHOM])
