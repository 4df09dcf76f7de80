"""From a text to its tokens."""

from changedsame.basics import GREATEST, KEYWORDS, is_run, is_short_big, is_short_name
from changedsame.errors import BadText, InvalidText

SIGNS = (
    "<=", ":=", "->", "(", ")", ",", ";", "|", "'", "!", "+", "-", "*", "/", "=", "<", "_",
)

LONGEST_NUMBER = 10


def tokens_of(text):
    """The list of the tuples (kind, text, place) of a text's tokens."""
    if not isinstance(text, str):
        raise InvalidText(text)
    found = []
    at = 0
    while at < len(text):
        if text[at] == " " or text[at] == "\n":
            at += 1
        elif text[at] == "#":
            at = line_end(text, at)
        else:
            kind, end = token_at(text, at)
            found.append((kind, text[at:end], at))
            at = end
    return found


def line_end(text, at):
    """The place of the line feed behind a place, or the length of the text."""
    end = text.find("\n", at)
    return len(text) if end < 0 else end


def run_end(text, at):
    """The place behind the letters and digits that stand at a place."""
    end = at
    while end < len(text) and is_run(text[end]):
        end += 1
    return end


def token_at(text, at):
    """The kind of the longest token that begins at a place, and the place behind it."""
    if is_run(text[at]):
        return run_token(text, at)
    if text[at] == "~":
        end = run_end(text, at + 1)
        if text[at + 1:end] != "0" and is_digits(text[at + 1:end], GREATEST + 1):
            return ("number", end)
        raise BadText(at)
    for sign in SIGNS:
        if text.startswith(sign, at):
            return ("sign", at + len(sign))
    raise BadText(at)


def run_token(text, at):
    """The same for a letter or a digit: the whole run of these, with a name behind a point if it is a big name."""
    end = run_end(text, at)
    run = text[at:end]
    if is_digits(run, GREATEST):
        return ("number", end)
    if run in KEYWORDS:
        return ("word", end)
    if is_short_name(run):
        return ("name", end)
    if not is_short_big(run):
        raise BadText(at)
    if text.startswith(".", end):
        behind = run_end(text, end + 1)
        if is_short_name(text[end + 1:behind]):
            return ("name", behind)
        if is_short_big(text[end + 1:behind]):
            return ("big", behind)
    return ("big", end)


def is_digits(run, most):
    """Whether a run is a number without needless zeros, no greater than told."""
    if not run.isdigit() or len(run) > LONGEST_NUMBER or (run[0] == "0" and len(run) > 1):
        return False
    return int(run) <= most
