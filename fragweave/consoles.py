"""Consoles: houses that are worked by lines of text."""

from fragweave.errors import NoPacket, WeaveError
from fragweave.integers import integer_read
from fragweave.rowtexts import piece_read, row_text

# The greatest number with as many digits as a line may have.
MOST_TICKS_READ = 999999999
NO_LINE = "no line"


def values_text(packet):
    """Return the text of a packet, "none" for None."""
    return "none" if packet is None else ",".join([str(value) for value in packet])


def listed(words):
    """Return some words with a space between two, "-" if there are none."""
    return " ".join(words) if words else "-"


def done(version):
    """Return the answer to an edit that was done."""
    return f"ok {version}"


class Console:
    """Does to a house what lines say, and answers in texts."""

    def __init__(self, house):
        self._house = house

    def execute(self, value):
        """Return the answer to a line, which may be any value."""
        words = value.split(" ") if isinstance(value, str) else []
        try:
            answer = self._answer(words)
        except (WeaveError, NoPacket) as error:
            return "error " + type(error).__name__
        return NO_LINE if answer is None else answer

    def __call__(self, value):
        return self.execute(value)

    def _answer(self, words):
        """Return the answer to a line of these words, None if it is none."""
        if "" in words:
            return None
        if len(words) == 1:
            return self._answer_word(words[0])
        if len(words) == 2:
            return self._answer_pair(words[0], words[1])
        return self._answer_come(words[1], words[2]) if len(words) == 3 and words[0] == "come" else None

    def _answer_word(self, word):
        """Return the answer to a line of one word, None if it is none."""
        if word == "undo":
            return done(self._house.undo())
        if word == "open":
            return listed(self._house.open_names())
        if word == "told":
            return listed([f"{name}:{values_text(packet)}" for name, packet in self._house.told])
        return listed(self._house.lost) if word == "lost" else None

    def _answer_pair(self, word, name):
        """Return the answer to a line of two words, None if it is none."""
        if word == "close":
            return done(self._house.close(name))
        if word == "row":
            return row_text(self._house.pieces_of(name))
        if word == "read":
            return values_text(self._house[name])
        return self._answer_wait(name) if word == "wait" else None

    def _answer_wait(self, word):
        """Return the answer to a line that lets the time grow, None if the word is no number of ticks."""
        ticks = integer_read(word, MOST_TICKS_READ)
        return None if ticks is None else done(self._house.wait(ticks))

    def _answer_come(self, name, word):
        """Return the answer to a line that lets a piece come, None if the word is not the text of a piece."""
        piece = piece_read(word)
        return None if piece is None else done(self._house.come(name, piece))
