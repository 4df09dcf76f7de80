"""Texts that are kept, remarks and all, outside of what changes in their programs."""

from changedsame.basics import is_count, is_run
from changedsame.changeforms import is_change_form
from changedsame.cursors import Cursor
from changedsame.deciding import decided
from changedsame.errors import InvalidChange, InvalidLayout, InvalidPlace, InvalidProgram, NotAccepted, Refused
from changedsame.infer import is_accepted
from changedsame.parser import ended
from changedsame.printer import program_text
from changedsame.readdecls import read_program
from changedsame.tokens import line_end
from changedsame.trees import is_program
from changedsame.writedecls import decl_text, head_text

NEW_LINE = "\n  "


class Layout:
    """A text that is read as a program, with the places of its heads, declarations and remarks; it never changes."""

    def __init__(self, text):
        cursor = Cursor(text)
        self.told_program = ended(cursor, "program", read_program(cursor))
        self.letters = text
        self.heads = [stretch(cursor, mark) for mark in cursor.heads]
        self.stretches = [[stretch(cursor, mark) for mark in marks] for marks in cursor.decl_marks]
        self.remark_spots = remarks_in(text)

    def text(self):
        """The text."""
        return self.letters

    def program(self):
        """The program as which the text is read."""
        return self.told_program

    def remarks(self):
        """The list of the remarks, in their sequence."""
        return [self.letters[begin:end] for begin, end in self.remark_spots]

    def spans(self, module):
        """The list of the tuples (begin, end) of the declarations of the module at a position."""
        if not is_count(module) or module >= len(self.stretches):
            raise InvalidPlace(module)
        return list(self.stretches[module])

    def __eq__(self, other):
        return isinstance(other, Layout) and self.letters == other.letters


def stretch(cursor, mark):
    """The tuple (begin, end) in the text of some tokens, told by the first one and the one behind the last."""
    begin, behind = mark
    _, word, at = cursor.tokens[behind - 1]
    return (cursor.tokens[begin][2], at + len(word))


def remarks_in(text):
    """The list of the tuples (begin, end) of the remarks in a text."""
    found = []
    at = text.find("#")
    while at >= 0:
        end = line_end(text, at)
        found.append((at, end))
        at = text.find("#", end)
    return found


def written_anew(layout, program):
    """The Layout of a text written anew for another program."""
    if not isinstance(layout, Layout):
        raise InvalidLayout(layout)
    if not is_program(program):
        raise InvalidProgram(program)
    return Layout(new_text(layout, program))


def laid_out(layout, change):
    """The Layout of a text written anew for the program that a change makes of its own one."""
    if not isinstance(layout, Layout):
        raise InvalidLayout(layout)
    if not is_change_form(change):
        raise InvalidChange(change)
    if not is_accepted(layout.program()):
        raise NotAccepted()
    told = decided(layout.program(), change)
    if told[0] == "refused":
        raise Refused(told[1])
    return Layout(new_text(layout, told[1]))


def new_text(layout, program):
    """The text of a layout, written anew for a program."""
    old = layout.program()
    if len(old) != len(program):
        return "".join([remark + "\n" for remark in layout.remarks()]) + program_text(program)
    edits = []
    for at, module in enumerate(program):
        begin, end = layout.heads[at]
        if old[at][:3] != module[:3]:
            edits.append((begin, end, head_text(module)))
        edits.extend(decl_edits(old[at][3], module[3], layout.spans(at), end))
    return joined_pieces(pieces_of(layout, edits))


def decl_edits(decls, others, spans, head_end):
    """The list of the tuples (begin, end, text) of what is replaced in a module's declarations, or put there."""
    first = many_alike(decls, others)
    last = many_alike(decls[first:][::-1], others[first:][::-1])
    old, new = decls[first:len(decls) - last], others[first:len(others) - last]
    spans = spans[:len(decls) - last]
    if len(old) == len(new):
        pairs = list(zip(old, new, spans[first:]))
        return [(span[0], span[1], decl_text(decl)) for was, decl, span in pairs if was != decl]
    if not old:
        at = spans[first - 1][1] if first else head_end
        return [(at, at, "".join([NEW_LINE + decl_text(decl) for decl in new]))]
    return [(spans[first][0], spans[-1][1], NEW_LINE.join([decl_text(decl) for decl in new]))]


def many_alike(parts, others):
    """How many parts of two tuples are equal at the begin."""
    many = 0
    while many < min(len(parts), len(others)) and parts[many] == others[many]:
        many += 1
    return many


def pieces_of(layout, edits):
    """The list of the pieces of a text: what is kept, and what replaces the rest, with the remarks that stood there."""
    text = layout.text()
    pieces = []
    at = 0
    for begin, end, told in edits:
        remarks = [text[spot[0]:spot[1]] for spot in layout.remark_spots if begin <= spot[0] < end]
        pieces.extend([text[at:begin], "".join([remark + NEW_LINE for remark in remarks]) + told])
        at = end
    return pieces + [text[at:]]


def joined_pieces(pieces):
    """The pieces one behind the other, with a blank where a letter or digit would meet one."""
    joined = ""
    for piece in pieces:
        if joined and piece and is_run(joined[-1]) and is_run(piece[0]):
            joined = joined + " "
        joined = joined + piece
    return joined
