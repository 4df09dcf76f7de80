"""Surroundings that watch a straight part: a module of cells and functions, and one that holds the part."""

from changedsame.parser import parse
from changedsame.straights import names_of

# Where the numbers begin that the surroundings tell of themselves, and where each row of them ends.
MARKERS = ((100, 150), (200, 250), (300, 350))

# Above what the part can call and ask for.
MOST_CALLS = 64


class Watcher:
    """What the open names are, how outside calls answer, and what they leave in the cells."""

    def __init__(self, sorts, partition, bits, answers, values, marker):
        self.sorts = list(sorts)
        self.class_of = partition
        self.bits = bits
        self.answers = answers
        self.numbers = {atom: number for atom, number in values}
        self.marker = marker
        self.classes = len({at: True for at in partition})

    def number_of(self, atom):
        """What an atom stands for."""
        return self.numbers.get(atom, 0)


def watched(watcher, part, sort):
    """The program that watches a part of this sort."""
    watch = ("call", ("var", "Out.over"), part)
    look = ("call", ("var", "Out.look"), ("int", watcher.marker))
    decls = open_decls(watcher) + [("do", ("try", watch, ((("any",), look),)))]
    return parse(outside_text(watcher, sort)) + (("module", "In", None, tuple(decls)),)


def open_decls(watcher):
    """The list of the declarations of the open names."""
    cells = {name: at for name, at in zip(names_of(watcher.sorts, "ref"), watcher.class_of)}
    truths = {name: bit for name, bit in zip(names_of(watcher.sorts, "bool"), watcher.bits)}
    decls = []
    for k, told in enumerate(watcher.sorts):
        name, sort = told
        if sort == "int":
            worked = ("int", watcher.number_of(("name", name)))
        elif sort == "bool":
            worked = ("bool", truths[name])
        elif sort == "ref":
            worked = ("var", f"Out.c{cells[name]}")
        else:
            worked = ("call", ("var", "Out.called" if sort == "fun" else "Out.tested"), ("int", watcher.marker + 2 + k))
        decls.append(("let", name, worked))
    return decls


def outside_text(watcher, sort):
    """The text of the module with the cells, and with the functions that look at them and tell what they see."""
    starts = [watcher.number_of(("start", at)) for at in range(watcher.classes)]
    looks = "".join([f"; tell(!c{at})" for at in range(watcher.classes)])
    leaves = "".join([f"c{at} := {left_text(watcher, at)}; " for at in range(watcher.classes)])
    placed = " ".join(placed_texts(watcher))
    lines = [f"let c{at} = ref({start})" for at, start in enumerate(starts)] + [
        "let calls = ref(0)", "let tests = ref(0)", f"let lefts = array({MOST_CALLS}, 0)",
        f"let results = array({MOST_CALLS}, 0)", f"let answers = array({MOST_CALLS}, false)",
        f"do {placed} ()",
        f"rec look m = tell(m){looks}",
        f"rec leave n = {leaves}calls := n + 1",
        "rec called m = fn x -> look m; tell(x); let n = !calls in leave n; at(results, n)",
        "rec tested m = fn x -> look m; tell(x); leave (!calls); let n = !tests in tests := n + 1; at(answers, n)",
        f"rec over v = look {watcher.marker + 1}{value_text(watcher, sort)}",
    ]
    body = " ".join(lines)
    return f"module Out = {body} end"


def left_text(watcher, at):
    """What a class holds behind the outside call n."""
    is_told = [atom for atom in watcher.numbers if atom[0] == "left" and atom[2] == at]
    return "at(lefts, n)" if is_told else "0"


def placed_texts(watcher):
    """The list of the texts that set the numbers and truths that are not as all others."""
    texts = [f"place(answers, {k}, true);" for k, answer in enumerate(watcher.answers) if answer]
    for atom in watcher.numbers:
        number = watcher.numbers[atom]
        if atom[0] == "left":
            texts.append(f"place(lefts, {atom[1]}, {number});")
        if atom[0] == "result":
            texts.append(f"place(results, {atom[1]}, {number});")
    return texts


def value_text(watcher, sort):
    """The text that tells a part's value: of a ref what it holds, and which of the classes it is."""
    if sort == "int":
        return "; tell(v)"
    if sort == "unit":
        return ""
    classes = [f"; tell(if same(v, c{at}) then 1 else 0)" for at in range(watcher.classes)]
    return "; tell(!v)" + "".join(classes)
