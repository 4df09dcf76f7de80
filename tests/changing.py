"""Changes of all kinds for a program, to be taken or refused."""

from changedsame.spots import all_exprs
from changedsame.wholes import resolved

NAMES = ["a", "b", "c", "x", "y", "f", "q"]
BIGS = ["A", "B", "C", "Nil", "Cons", "Some", "None", "E"]


def some_changes(program, rand, many=30):
    """A list of at most so many changes, most of which fit."""
    exprs = all_exprs(program)
    places = [place for place, _ in exprs]
    found = [("fold", place, rand.choice(NAMES)) for place, _ in rand.sample(exprs, min(6, len(exprs)))]
    for place, expr in exprs:
        if expr[0] == "call":
            found.append(("unfold", place))
        if expr[0] in ("match", "try"):
            for k in range(len(expr[2])):
                found += [(word, place, k) for word in ("swap rules", "drop rule", "merge rules")]
                found.append(("split rule", place, k, (), rand.choice(BIGS)))
        if expr[0] in ("let", "seq"):
            found += [("swap", place), ("inline", place), ("drop", place)]
        inside = [at for at in places if at[:len(place)] == place and at != place]
        if inside and rand.random() < 0.3:
            found.append((rand.choice(["extract", "share"]), place, rand.choice(inside), rand.choice(NAMES)))
        if rand.random() < 0.1:
            found.append(("replace", place, rand.choice(exprs)[1]))
        if expr[0] in ("fn", "let", "rec", "match", "try") and rand.random() < 0.3:
            found.append(("rename local", place, 0, rand.choice(NAMES)))
    titles = [module[1] for module in program]
    for name in resolved(program).value_names():
        found += [("flip", name), ("move", name, rand.choice(titles), rand.randint(0, 4)), ("rename value", name, rand.choice(NAMES))]
    for title in titles:
        found += [("turn shape", f"{title}.C", (1, 0)), ("rename module", title, rand.choice(["M", "N", "Zed"])), ("rename constructor", f"{title}.E", "Other"),
                  ("rename type", f"{title}.t", rand.choice(["u", "list"]))]
    rand.shuffle(found)
    return found[:many]
