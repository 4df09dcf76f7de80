"""Programs without their names: what is left where each name is told by what it means."""

from changedsame.sights import sights_of, whole_decls


class Numbers:
    """The positions of a resolved program's values, constructors and types among all that are declared."""

    def __init__(self, whole):
        self.of_values = {name: k for k, name in enumerate(whole.value_names())}
        self.of_cons = {maker[0]: k for k, maker in enumerate(whole.cons())}
        sorts = [decl[1] for decl in whole.decls() if decl[0] == "type"]
        self.of_sorts = {name: k for k, name in enumerate(sorts)}


def skeleton(program, whole):
    """What is left of a resolved program without its names: equal for two that are alike but for names."""
    numbers = Numbers(whole)
    heads = [(place, bare_head(expr, env, numbers)) for place, expr, env in sights_of(program, whole)]
    decls = [(place, bare_decl(decl, numbers)) for place, decl in whole_decls(program, whole)]
    return (shown_things(program, whole, numbers), decls, heads)


def bare_head(expr, env, numbers):
    """An expression without its names and without the expressions in it."""
    word = expr[0]
    if word == "var":
        return (word, env[expr[1]] if expr[1] in env else ("value", numbers.of_values[expr[1]]))
    if word == "con":
        return (word, numbers.of_cons[expr[1]])
    if word in ("match", "try"):
        return (word, tuple([bare_pattern(pattern, numbers) for pattern, _ in expr[2]]))
    if word in ("int", "bool", "prim"):
        return expr[:2]
    return (word,)


def bare_pattern(pattern, numbers):
    """A pattern without its names."""
    word = pattern[0]
    if word == "bind":
        return (word,)
    if word == "tuple":
        return (word, tuple([bare_pattern(part, numbers) for part in pattern[1]]))
    if word == "con":
        inner = None if pattern[2] is None else bare_pattern(pattern[2], numbers)
        return (word, numbers.of_cons[pattern[1]], inner)
    return pattern


def bare_decl(decl, numbers):
    """A declaration without its names and without the expressions in it."""
    word = decl[0]
    if word == "exception":
        return (word, bare_argument(decl[2], (), numbers))
    if word == "type":
        arguments = [bare_argument(case[1], decl[2], numbers) for case in decl[3]]
        return (word, len(decl[2]), tuple(arguments))
    return (word, len(decl[1])) if word == "rec" else (word,)


def bare_argument(written, parameters, numbers):
    return None if written is None else bare_written(written, parameters, numbers)


def bare_written(written, parameters, numbers):
    """A type without its names; of the base's types the names stay."""
    word = written[0]
    if word == "param":
        return (word, parameters.index(written[1]))
    if word == "tuple":
        return (word, tuple([bare_written(part, parameters, numbers) for part in written[1]]))
    if word == "data":
        name = numbers.of_sorts[written[1]] if written[1] in numbers.of_sorts else written[1]
        return (word, name, tuple([bare_written(part, parameters, numbers) for part in written[2]]))
    return (word,) + tuple([bare_written(part, parameters, numbers) for part in written[1:]])


def shown_things(program, whole, numbers):
    """For each module the sorted lists of the positions of the values and of the constructors that it shows."""
    rows = []
    for module in program:
        home = whole.homes[module[1]]
        vals = [numbers.of_values[home.whole(short)] for short in home.vals if home.does_show(short)]
        makers = [numbers.of_cons[home.whole(short)] for short in home.makers if home.does_show(short)]
        rows.append((len(module[3]), sorted(vals), sorted(makers)))
    return rows
