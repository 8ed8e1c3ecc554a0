"""Changes: the fewest cuts and puts that lead from one list of rows to another."""


def changes_of(old, new):
    stay = most_that_stay(old, new)
    changes = []
    old_at = 0
    new_at = 0
    while old_at < len(old) or new_at < len(new):
        # Ahead of `new_at` the list is like the new one already; from there on stand the old rows from `old_at` on.
        if old_at < len(old) and new_at < len(new) and old[old_at] == new[new_at]:
            old_at += 1
            new_at += 1
        elif new_at == len(new) or old_at < len(old) and stay[old_at + 1][new_at] >= stay[old_at][new_at + 1]:
            changes.append(("cut", new_at))
            old_at += 1
        else:
            changes.append(("put", new_at, new[new_at]))
            new_at += 1
    return changes


def most_that_stay(old, new):
    # At [k][n] stands how many of the old rows from k on can stay, in their order, among the new rows from n on.
    table = [[0] * (len(new) + 1)]
    for row in reversed(old):
        table.append(stay_with(row, new, table[-1]))
    return list(reversed(table))


def stay_with(row, new, behind):
    counts = [0] * (len(new) + 1)
    for at in range(len(new) - 1, -1, -1):
        if row == new[at]:
            counts[at] = behind[at + 1] + 1
        else:
            counts[at] = max(behind[at], counts[at + 1])
    return counts
