"""How declarations and modules are written."""

from changedsame.writeexprs import expr_items, member_items, written_items
from changedsame.writing import joined_tokens, listed, written_text


def items_text(items):
    """The text of some items."""
    return joined_tokens([item if isinstance(item, str) else written_text(item[0], item[1]) for item in items])


def case_items(con, written):
    """A constructor as it is declared."""
    return [con] if written is None else [con, "of", (written_items, written)]


def data_decl_items(decl):
    _, name, parameters, cases = decl
    items = ["type", name]
    if parameters:
        items = ["type", name + "("]
        for parameter in parameters:
            items.extend(["'", parameter, ","])
        items[-1] = ")"
    items.append("=")
    for con, written in cases:
        items.extend(case_items(con, written) + ["|"])
    return items[:-1]


def decl_text(decl):
    """The text of a declaration, on one line."""
    word = decl[0]
    if word == "type":
        return items_text(data_decl_items(decl))
    if word == "exception":
        return items_text(["exception"] + case_items(decl[1], decl[2]))
    if word == "let":
        return items_text(["let", decl[1], "=", (expr_items, decl[2])])
    if word == "rec":
        return items_text(["rec"] + member_items(decl[1]))
    return items_text(["do", (expr_items, decl[1])])


def head_text(module):
    """What stands ahead of a module's declarations."""
    if module[2] is None:
        return items_text(["module", module[1], "="])
    shown = listed(list(module[2]), ",") if module[2] else ["(", ")"]
    return items_text(["module", module[1], "show"] + shown + ["="])


def module_text(module):
    """The text of a module, each of its lines with a line feed."""
    lines = [head_text(module)] + ["  " + decl_text(decl) for decl in module[3]] + ["end"]
    return "".join([line + "\n" for line in lines])
