"""All values that matter for some patterns, one by one: each place gets each key that is asked for there, and one more."""

import itertools

CONS = {"Nil": None, "Cons": 1, "M.A": None, "M.B": 1, "M.C": 1, "M.Only": 1, "DivZero": None, "Bounds": None,
        "NoMore": None, "NoMatch": None, "M.E": 1, "M.F": None, "None": None, "Some": 1}
KIN = [["Nil", "Cons"], ["None", "Some"], ["M.A", "M.B", "M.C"], ["M.Only"],
       ["DivZero", "Bounds", "NoMore", "NoMatch", "M.E", "M.F"]]
TEXT = ("module M = type t = A | B of int | C of int * bool type u = Only of int exception E of int "
        "exception F end")


def nodes_at(patterns):
    """What stands at the top of some patterns, those that ask for nothing left out."""
    return [pattern for pattern in patterns if pattern[0] not in ("any", "bind")]


def values_for(patterns, most=4000):
    """The list of all fitting values that differ for these patterns (cells where nothing is asked for), or None."""
    asked = nodes_at(patterns)
    if not asked:
        return [("cell", 5)]
    word = asked[0][0]
    if word == "int":
        keys = sorted({node[1] for node in asked})
        return [("int", key) for key in keys] + [("int", next(k for k in itertools.count() if k not in keys))]
    if word == "bool":
        return [("bool", False), ("bool", True)]
    if word == "unit":
        return [("unit",)]
    if word == "tuple":
        rows = [values_for([node[1][k] for node in asked], most) for k in range(len(asked[0][1]))]
        if any(row is None for row in rows):
            return None
        many = 1
        for row in rows:
            many *= len(row)
        return [("tuple", row) for row in itertools.product(*rows)] if many <= most else None
    found = []
    for con in next(row for row in KIN if asked[0][1] in row):
        if CONS[con] is None:
            found.append(("con", con, None))
        else:
            inner = values_for([node[2] for node in asked if node[1] == con], most)
            if inner is None:
                return None
            found += [("con", con, value) for value in inner]
    return found


def random_patterns(random, sorts, many):
    """So many patterns of one random shape of sorts."""
    return [random_pattern(random, sorts) for _ in range(many)]


def random_sort(random, depth):
    word = random.choice(["int", "bool", "unit", "tuple", "tuple", "con", "con", "con"])
    if depth <= 1 or word in ("int", "bool", "unit"):
        return random.choice(["int", "bool", "unit"])
    if word == "tuple":
        return ("tuple", [random_sort(random, depth - 1) for _ in range(random.randint(2, 3))])
    kin = random.choice(KIN)
    return ("con", {con: None if CONS[con] is None else random_sort(random, depth - 1) for con in kin})


def random_pattern(random, sort):
    if random.random() < 0.35:
        return ("any",)
    if sort == "int":
        return ("int", random.randint(0, 2))
    if sort == "bool":
        return ("bool", random.random() < 0.5)
    if sort == "unit":
        return ("unit",)
    if sort[0] == "tuple":
        return ("tuple", tuple(random_pattern(random, part) for part in sort[1]))
    con = random.choice(sorted(sort[1]))
    inner = sort[1][con]
    return ("con", con, None if inner is None else random_pattern(random, inner))
