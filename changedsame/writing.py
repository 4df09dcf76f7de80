"""Writing trees: each form as its level and its items, these put into brackets where a stronger level is wanted.

An item is a token, or a tuple (writer, tree, least level). A token that ends in an opening bracket stands
right ahead of what it takes, as in `at(a, 0)`.
"""


def written_text(writer, tree):
    """The text of a tree, without a walk that calls itself, so that it may be ever so deep."""
    tokens = []
    work = [(writer, tree, 0)]
    while work:
        item = work.pop()
        if isinstance(item, str):
            tokens.append(item)
        else:
            work.extend(opened(item)[::-1])
    return joined_tokens(tokens)


def opened(item):
    """The items of which an item consists, with brackets if it is weaker than it has to be."""
    writer, tree, least = item
    level, items = writer(tree)
    return ["("] + items + [")"] if level < least else items


def joined_tokens(tokens):
    """Tokens with a blank between, but for brackets, commas, semicolons and what stands ahead of one thing."""
    parts = []
    for token in tokens:
        if parts and parts[-1][-1] not in ("(", "'", "!") and token not in (")", ",", ";"):
            parts.append(" ")
        parts.append(token)
    return "".join(parts)


def listed(items, sign):
    """Items with a sign between each two."""
    found = []
    for item in items:
        if found:
            found.append(sign)
        found.append(item)
    return found
