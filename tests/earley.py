"""The grammar of DOC.md, point 14, as it stands there, and how far a row of tokens can stand by it.

It is read by Earley's way, which knows nothing of how the package reads. Names that must be unlike are left out.
"""

ALTERNATIVES = {}


def rule(name, *alternatives):
    ALTERNATIVES.setdefault(name, []).extend([alternative.split() for alternative in alternatives])


def row(name, item, sign, least, most):
    """From least to most items, with a sign between each two (none if it is empty)."""
    for many in range(least, most + 1):
        words = []
        for k in range(many):
            words += ([sign] if k and sign else []) + [item]
        rule(name, " ".join(words))


row("PROGRAM", "MODULE", "", 1, 6)
rule("MODULE", "module BIG = DECLS end", "module BIG SHOWS = DECLS end")
row("DECLS", "DECL", "", 0, 20)
rule("SHOWS", "show ( )", "show SHOWNS")
row("SHOWNS", "SHOWN", ",", 1, 40)
rule("SHOWN", "NAME", "BIG")
rule("DECL", "type NAME = CASES", "type NAME PARAMS = CASES", "exception CASE", "let NAME = E", "rec FUNS", "do E")
rule("PARAMS", "( PARAMLIST )")
row("PARAMLIST", "PARAM", ",", 1, 3)
rule("PARAM", "' NAME")
row("CASES", "CASE", "|", 1, 6)
rule("CASE", "BIG", "BIG of TYPE")
row("FUNS", "FUN", "and", 1, 4)
rule("FUN", "NAME NAME = E")
rule("E", "OPEN", "PUT", "PUT ; E")
rule("OPEN", "fn NAME -> E", "let NAME = E in E", "rec FUNS in E", "if E then E else E")
rule("PUT", "CMP", "CMP := CMP")
rule("CMP", "ADD", "ADD = ADD", "ADD < ADD", "ADD <= ADD")
rule("ADD", "MUL", "ADD + MUL", "ADD - MUL")
rule("MUL", "APP", "MUL * APP", "MUL / APP", "MUL mod APP")
rule("APP", "HEAD", "APP PRE")
rule("HEAD", "raise PRE", "CON PRE", "PRE")
rule("PRE", "! PRE", "ATOM")
rule("ATOM", "NUMBER", "true", "false", "LONG", "CON", "( )", "( ES )", "match E with RULES end", "try E with RULES end")
rule("ATOM", "ask ( )", "not ( E )", "ref ( E )", "size ( E )", "tell ( E )", "same ( E , E )", "array ( E , E )")
rule("ATOM", "at ( E , E )", "place ( E , E , E )")
row("ES", "E", ",", 1, 4)
row("RULES", "RULE", "|", 1, 8)
rule("RULE", "P -> E")
rule("P", "CON PATOM", "PATOM")
rule("PATOM", "_", "NAME", "NUMBER", "true", "false", "CON", "( )", "( PS )")
row("PS", "P", ",", 1, 4)
rule("TYPE", "FLAT", "FLAT -> TYPE")
row("FLAT", "TATOM", "*", 1, 4)
rule("TATOM", "int", "bool", "unit", "exn", "' NAME", "LONG", "LONG ( TYPES )", "ref ( TYPE )", "array ( TYPE )")
rule("TATOM", "( TYPE )")
row("TYPES", "TYPE", ",", 1, 3)
rule("LONG", "NAME", "LONGNAME")
rule("CON", "BIG", "LONGBIG")


def sort_of(token):
    """The word of the grammar for a token (kind, text, place)."""
    kind, text, _ = token
    if kind == "number":
        return "NUMBER"
    if kind in ("name", "big"):
        return ("LONG" if "." in text else "") + kind.upper()
    return text


def bad_place(start, tokens, length):
    """The place of the first token that can't stand, the length of the text if it ends too early, or None."""
    sets = [{(start, k, 0, 0) for k in range(len(ALTERNATIVES[start]))}]
    for at in range(len(tokens) + 1):
        close(sets, at)
        if at == len(tokens):
            break
        word = sort_of(tokens[at])
        further = {(name, k, dot + 1, begin) for name, k, dot, begin in sets[at]
                   if dot < len(ALTERNATIVES[name][k]) and ALTERNATIVES[name][k][dot] == word}
        if not further:
            return tokens[at][2]
        sets.append(further)
    ended = [item for item in sets[-1]
             if item[0] == start and item[3] == 0 and item[2] == len(ALTERNATIVES[start][item[1]])]
    return None if ended else length


def close(sets, at):
    """Changes the last set: all that is foretold and all that is complete there."""
    work = list(sets[at])
    found = sets[at]
    while work:
        name, k, dot, begin = work.pop()
        words = ALTERNATIVES[name][k]
        if dot == len(words):
            further = [(n, j, d + 1, b) for n, j, d, b in list(sets[begin])
                       if d < len(ALTERNATIVES[n][j]) and ALTERNATIVES[n][j][d] == name]
        elif words[dot] in ALTERNATIVES:
            further = [(words[dot], j, 0, at) for j in range(len(ALTERNATIVES[words[dot]]))]
            if words[dot] == "DECLS":
                further.append((name, k, dot + 1, begin))
        else:
            further = []
        for item in further:
            if item not in found:
                found.add(item)
                work.append(item)
