"""Numbers, names and words of the language."""

KEYWORDS = (
    "and", "array", "ask", "at", "bool", "do", "else", "end", "exception", "exn", "false", "fn", "if", "in", "int",
    "let", "match", "mod", "module", "not", "of", "place", "raise", "rec", "ref", "same", "show", "size", "tell",
    "then", "true", "try", "type", "unit", "with",
)

PRIMS = {
    "add": 2, "sub": 2, "mul": 2, "div": 2, "mod": 2, "eq": 2, "lt": 2, "le": 2, "not": 1, "ref": 1, "get": 1,
    "put": 2, "same": 2, "array": 2, "at": 2, "place": 3, "size": 1, "tell": 1, "ask": 0,
}

LEAST = -2147483648
GREATEST = 2147483647
LONGEST_NAME = 20


def is_integer(value):
    """Whether any value is an int that is no bool."""
    return isinstance(value, int) and not isinstance(value, bool)


def is_count(value):
    """Whether any value is an integer that is at least 0."""
    return is_integer(value) and value >= 0


def is_number(value):
    """Whether any value is a number of the language."""
    return is_integer(value) and LEAST <= value <= GREATEST


def is_run(value):
    """Whether any value is a string of ASCII letters and digits alone, one at least."""
    return isinstance(value, str) and value.isascii() and value.isalnum()


def is_short_name(value):
    """Whether any value is a name without a module."""
    return is_run(value) and len(value) <= LONGEST_NAME and value[0].islower() and value not in KEYWORDS


def is_short_big(value):
    """Whether any value is a big name without a module."""
    return is_run(value) and len(value) <= LONGEST_NAME and value[0].isupper()


def is_long_name(value):
    """Whether any value is a name, with or without a module."""
    if not isinstance(value, str) or "." not in value:
        return is_short_name(value)
    module, _, name = value.partition(".")
    return is_short_big(module) and is_short_name(name)


def is_long_big(value):
    """Whether any value is a big name, with or without a module."""
    if not isinstance(value, str) or "." not in value:
        return is_short_big(value)
    module, _, name = value.partition(".")
    return is_short_big(module) and is_short_big(name)


def is_tuple_of(value, least, most):
    """Whether any value is a tuple with so many things in it."""
    return isinstance(value, tuple) and least <= len(value) <= most


def all_unlike(words):
    """Whether no string stands twice in a list or tuple of strings."""
    return len({word: True for word in words}) == len(words)


def word_of(value):
    """The word that a tuple begins with, or None where there is none."""
    if isinstance(value, tuple) and value and isinstance(value[0], str):
        return value[0]
    return None
