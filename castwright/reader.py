"""A text that is read piece by piece, from its first sign to its last."""

from castwright.errors import BadNote
from castwright.kinds import is_small_letter


class Reader:
    def __init__(self, text):
        self.text = text
        self.place = 0

    def sees(self, piece):
        return self.text.startswith(piece, self.place)

    def takes(self, piece):
        if not self.sees(piece):
            return False
        self.place += len(piece)
        return True

    def wants(self, piece):
        if not self.takes(piece):
            raise BadNote(f"wanted {piece!r}")

    def wants_end(self):
        if self.place < len(self.text):
            raise BadNote("there is more text than is wanted")

    # Perhaps empty: the caller knows which words may stand there.
    def word(self):
        start = self.place
        while self.place < len(self.text) and is_small_letter(self.text[self.place]):
            self.place += 1
        return self.text[start:self.place]

    # Perhaps empty. Not isdigit: it takes signs beyond 9 for figures too.
    def figures(self):
        start = self.place
        while self.place < len(self.text) and "0" <= self.text[self.place] <= "9":
            self.place += 1
        return self.text[start:self.place]
