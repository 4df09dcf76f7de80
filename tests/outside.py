"""Programs around a straight part in which each atom stands for whatever number, and what a row lets them tell."""

from changedsame.linears import form_worth
from changedsame.parser import parse

CALLS = 40


class Outside:
    """numbers tells of each atom what it stands for; partition, bits and answers are those of a case."""

    def __init__(self, sorts, partition, bits, answers, numbers):
        self.sorts, self.numbers, self.answers = sorts, numbers, answers
        self.cells = dict(zip([name for name, sort in sorts if sort == "ref"], partition))
        self.bits = dict(zip([name for name, sort in sorts if sort == "bool"], bits))
        self.classes = max(partition, default=-1) + 1
        self.marks = {name: 7000 + k for k, (name, _) in enumerate(sorts)}

    def number(self, *atom):
        return self.numbers.get(atom, 0)

    def table(self, name, row):
        texts = [f"place({name}, {k}, {text})" for k, text in row if text not in ("0", "false")]
        return ("do " + "; ".join(texts)).replace("-", "~") if texts else ""

    def modules(self, kind):
        """The two modules of cells and functions, and the declarations of the open names."""
        classes = range(self.classes)
        lefts = " ".join(f"let l{c} = array({CALLS}, 0) " + self.table(
            f"l{c}", [(n, str(self.number("left", n, c))) for n in range(CALLS)]) for c in classes)
        store = "module S = " + " ".join(f"let c{c} = ref({self.number('start', c)})" for c in classes).replace("-", "~") + " " + lefts + " end"
        held = "".join(f"; tell(!S.c{c})" for c in classes)
        leave = "".join(f"; S.c{c} := at(S.l{c}, n)" for c in classes)
        results = self.table("res", [(n, str(self.number("result", n))) for n in range(CALLS)])
        answers = self.table("ans", [(n, str(bool(a)).lower()) for n, a in enumerate(self.answers)])
        value = {"int": "; tell(v)", "unit": "", "ref": "; tell(!v)" + "".join(
            f"; tell(if same(v, S.c{c}) then 1 else 0)" for c in classes)}[kind]
        work = ("module W = let res = array(40, 0) " + results + " let ans = array(40, false) " + answers +
                " let many = ref(0) let asked = ref(0) rec run m = fn x -> let n = !many in many := n + 1; tell(m); tell(x)" +
                held + leave + "; at(res, n) rec test m = fn x -> let a = !asked in asked := a + 1; run m x; at(ans, a) "
                "rec over v = tell(9999)" + held + value + " end")
        return parse(store) + parse(work)

    def program(self, part, kind):
        decls = []
        for name, sort in self.sorts:
            decls.append(("let", name, {
                "int": lambda: ("int", self.number("name", name)), "bool": lambda: ("bool", self.bits[name]),
                "ref": lambda: ("var", f"S.c{self.cells[name]}"),
                "fun": lambda: ("call", ("var", "W.run"), ("int", self.marks[name])),
                "test": lambda: ("call", ("var", "W.test"), ("int", self.marks[name]))}[sort]()))
        decls.append(("do", ("call", ("var", "W.over"), part)))
        return self.modules(kind) + (("module", "P", None, tuple(decls)),)

    def inputs(self, many=60):
        return [self.number("input", n) for n in range(many)]

    def told(self, row):
        """The outer trace of a part with this row."""
        worth = lambda form: form_worth(form, list(self.numbers.items()))
        trace = []
        tell = lambda numbers: trace.extend([("tell", number) for number in numbers])
        asked = 0
        for point in row:
            if point[0] == "tell":
                tell([worth(point[1])])
            elif point[0] == "ask":
                trace.append(("ask", self.number("input", asked)))
                asked += 1
            elif point[0] == "end":
                tell([9999] + [worth(form) for form in point[2]])
                value = point[1]
                if value is not None and value[0] in ("open", "new"):
                    number = worth(point[2][value[1]]) if value[0] == "open" else worth(value[1])
                    tell([number] + [1 if value == ("open", c) else 0 for c in range(self.classes)])
                elif value is not None:
                    tell([worth(value)])
            else:
                tell([self.marks[point[1]], worth(point[2])] + [worth(form) for form in point[3]])
        return trace


def random_outside(rand, sorts, many):
    """A random case, with random numbers for all atoms; so many answers."""
    partition = []
    for _ in [name for name, sort in sorts if sort == "ref"]:
        partition.append(rand.randint(0, max(partition, default=-1) + 1))
    bits = [rand.random() < 0.5 for _, sort in sorts if sort == "bool"]
    answers = [rand.random() < 0.5 for _ in range(many)]
    pick = lambda: rand.choice([0, 1, -1, 2, 2147483647, -2147483648, rand.randint(-9999, 9999)])
    atoms = [("name", name) for name, sort in sorts if sort == "int"] + [("input", n) for n in range(8)]
    atoms += [("start", c) for c in range(4)] + [("left", n, c) for n in range(4) for c in range(4)] + [("result", n) for n in range(6)]
    return partition, bits, answers, {atom: pick() for atom in atoms}
