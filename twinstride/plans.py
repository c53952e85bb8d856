"""What a plan is, and what its rows read, set and may take.

A plan is a tuple (m, names, many, rows, mark).
"""

MOST_NAMES = 12
MOST_LETTERS = 8
LEAST_WHEEL = 2
MOST_WHEEL = 997
MOST_PIECES = 40
MOST_ROWS = 60
MOST_WITHIN = 4

# What stands behind each sort of row's word.
PARTS = {
    "put": ("name", "number"),
    "take": ("name", "piece"),
    "pick": ("name", "name"),
    "sum": ("name", "name", "name"),
    "by": ("name", "name", "name"),
    "less": ("name", "name", "name"),
    "same": ("name", "name", "name"),
    "if": ("name", "rows", "rows"),
    "again": ("name", "rows"),
}


def is_plan(thing):
    """Tell of any thing whether it is a plan."""
    if not isinstance(thing, tuple) or len(thing) != 5:
        return False
    if not is_whole(thing[0], LEAST_WHEEL, MOST_WHEEL) or not is_whole(thing[2], 0, MOST_PIECES):
        return False
    return are_names(thing[1]) and is_name_of(thing, thing[4]) and are_rows(thing)


def is_whole(thing, least, most):
    """Tell of any thing whether it is a whole number from least to most."""
    if not isinstance(thing, int) or isinstance(thing, bool):
        return False
    return least <= thing <= most


def is_name(thing):
    """Tell of any thing whether it is a name."""
    if not isinstance(thing, str) or not 1 <= len(thing) <= MOST_LETTERS:
        return False
    return all(["a" <= sign <= "z" for sign in thing])


def are_names(thing):
    """Tell of any thing whether it may be the names of a plan."""
    if not isinstance(thing, tuple) or not 1 <= len(thing) <= MOST_NAMES:
        return False
    return all([is_name(part) for part in thing]) and len(set(thing)) == len(thing)


def is_name_of(plan, thing):
    """Tell of any thing whether it is one of the plan's names."""
    return isinstance(thing, str) and thing in plan[1]


def are_rows(plan):
    """Tell whether the rows of what is a plan but perhaps for them are such."""
    count = 0
    waiting = [(plan[3], 0)]
    while waiting:
        rows_and_depth = waiting.pop()
        rows = rows_and_depth[0]
        depth = rows_and_depth[1]
        if not isinstance(rows, tuple):
            return False
        # Counted ahead of the look at each row, so that huge things are left soon.
        count += len(rows)
        if count > MOST_ROWS:
            return False
        if not all([is_row(plan, row, depth) for row in rows]):
            return False
        for row in rows:
            waiting.extend([(part, depth + 1) for part in rows_within(row)])
    return True


def is_row(plan, thing, depth):
    """Tell whether a thing within depth ifs and agains is a row, but for the rows within it."""
    if not isinstance(thing, tuple) or len(thing) == 0 or not isinstance(thing[0], str):
        return False
    word = thing[0]
    if word not in PARTS or len(thing) != len(PARTS[word]) + 1:
        return False
    if word == "pick" and plan[2] == 0:
        return False
    if "rows" in PARTS[word] and depth == MOST_WITHIN:
        return False
    return all([is_part(plan, kind, part) for kind, part in zip(PARTS[word], thing[1:])])


def is_part(plan, kind, thing):
    """Tell whether a thing is such a part of a row; rows are left to are_rows."""
    if kind == "name":
        return is_name_of(plan, thing)
    if kind == "number":
        return is_whole(thing, 0, plan[0] - 1)
    if kind == "piece":
        return is_whole(thing, 0, plan[2] - 1)
    return True


def rows_within(row):
    """Tell the tuples of rows that stand within a row."""
    if row[0] == "if":
        return [row[2], row[3]]
    if row[0] == "again":
        return [row[2]]
    return []


def names_read(row):
    """Tell the names that a row reads when it does its step; an if's and an again's step is a look."""
    if row[0] == "if" or row[0] == "again":
        return [row[1]]
    if row[0] == "put" or row[0] == "take":
        return []
    return list(row[2:])


def setting_rows(rows):
    """Tell the rows that set their own x, those within ifs and agains too."""
    found = []
    for row in rows:
        if row[0] != "if" and row[0] != "again":
            found.append(row)
        for part in rows_within(row):
            found.extend(setting_rows(part))
    return found


def sets(rows):
    """Tell the names that the rows set, rising."""
    return sorted(set([row[1] for row in setting_rows(rows)]))


def may_take(plan, rows):
    """Tell the pieces that the rows may take, rising."""
    found = setting_rows(rows)
    if any([row[0] == "pick" for row in found]):
        return list(range(plan[2]))
    return sorted(set([row[2] for row in found if row[0] == "take"]))
