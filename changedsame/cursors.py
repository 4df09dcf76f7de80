"""A cursor that goes over the tokens of a text."""

from changedsame.errors import BadText
from changedsame.tokens import tokens_of


class Cursor:
    """The tokens of a text, and which of them comes next; behind the last one there is an empty one.

    Of what is read it keeps where each module's head and declarations stand: the first token, and that behind them.
    """

    def __init__(self, text):
        self.tokens = tokens_of(text)
        self.tokens.append(("end", "", len(text)))
        self.spot = 0
        self.heads = []
        self.decl_marks = []

    def token_kind(self):
        """The kind of the next token."""
        return self.tokens[self.spot][0]

    def word(self):
        """The text of the next token, by which a word and a sign are told from all others."""
        return self.tokens[self.spot][1]

    def stop(self):
        """The next token can't stand."""
        raise BadText(self.tokens[self.spot][2])

    def take(self):
        """The text of the next token, which is left behind."""
        text = self.word()
        self.spot += 1
        return text

    def takes(self, text):
        """Whether the next token is this word or sign; then it is left behind."""
        if self.word() != text:
            return False
        self.spot += 1
        return True

    def want(self, text):
        """Leaves this word or sign behind, which alone can stand."""
        if not self.takes(text):
            self.stop()

    def has_name(self):
        """Whether the next token is a name without a module."""
        return self.token_kind() == "name" and "." not in self.word()

    def has_big(self):
        """Whether the next token is a big name without a module."""
        return self.token_kind() == "big" and "." not in self.word()

    def take_name(self, barred):
        """The next token, which has to be a name without a module, none of those that are barred."""
        if not self.has_name() or self.word() in barred:
            self.stop()
        return self.take()

    def take_big(self):
        """The next token, which has to be a big name without a module."""
        if not self.has_big():
            self.stop()
        return self.take()
