"""Reading patterns. A name that a pattern has bound is put into the list of its names, and can't stand again."""

SIMPLE_KINDS = ("number", "big")
SIMPLE_WORDS = ("_", "true", "false", "(")


def number_of(text):
    """The number that a token stands for."""
    return 0 - int(text[1:]) if text.startswith("~") else int(text)


def read_pattern(cursor, names):
    """P: a constructor with its argument, or a small pattern."""
    if cursor.token_kind() != "big":
        return read_small_pattern(cursor, names)
    con = cursor.take()
    if cursor.has_name() or cursor.token_kind() in SIMPLE_KINDS or cursor.word() in SIMPLE_WORDS:
        return ("con", con, read_small_pattern(cursor, names))
    return ("con", con, None)


def read_small_pattern(cursor, names):
    """PATOM: a pattern that needs no brackets wherever it stands."""
    if cursor.token_kind() == "number":
        return ("int", number_of(cursor.take()))
    if cursor.token_kind() == "big":
        return ("con", cursor.take(), None)
    if cursor.has_name():
        names.append(cursor.take_name(names))
        return ("bind", names[-1])
    if cursor.takes("_"):
        return ("any",)
    if cursor.word() in ("true", "false"):
        return ("bool", cursor.take() == "true")
    cursor.want("(")
    return read_bracketed(cursor, names)


def read_bracketed(cursor, names):
    """What stands behind a pattern's opening bracket: unit, a pattern, or a tuple of two to four."""
    if cursor.takes(")"):
        return ("unit",)
    parts = [read_pattern(cursor, names)]
    while len(parts) < 4 and cursor.takes(","):
        parts.append(read_pattern(cursor, names))
    cursor.want(")")
    return parts[0] if len(parts) == 1 else ("tuple", tuple(parts))
