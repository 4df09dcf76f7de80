"""Reading types."""

LONE = ("int", "bool", "unit", "exn")


def read_written(cursor):
    """TYPE: flat ones, with arrows between that group to the right."""
    flats = [read_flat(cursor)]
    while cursor.takes("->"):
        flats.append(read_flat(cursor))
    written = flats.pop()
    while flats:
        written = ("fun", flats.pop(), written)
    return written


def read_flat(cursor):
    """FLAT: up to four types with stars between."""
    parts = [read_small(cursor)]
    while len(parts) < 4 and cursor.takes("*"):
        parts.append(read_small(cursor))
    return parts[0] if len(parts) == 1 else ("tuple", tuple(parts))


def read_small(cursor):
    """TATOM: a type that needs no brackets wherever it stands."""
    word = cursor.word()
    if cursor.token_kind() == "name":
        return ("data", cursor.take(), read_data_parts(cursor))
    if word in LONE:
        return (cursor.take(),)
    if cursor.takes("'"):
        return ("param", cursor.take_name(()))
    if word in ("ref", "array"):
        cursor.take()
        cursor.want("(")
        return (word, read_closed(cursor))
    cursor.want("(")
    return read_closed(cursor)


def read_closed(cursor):
    """A type and the bracket behind it."""
    written = read_written(cursor)
    cursor.want(")")
    return written


def read_data_parts(cursor):
    """The types in brackets behind a type's name, if there are brackets."""
    parts = []
    if cursor.takes("("):
        parts.append(read_written(cursor))
        while len(parts) < 3 and cursor.takes(","):
            parts.append(read_written(cursor))
        cursor.want(")")
    return tuple(parts)
