"""The text of a script: from lines to orders."""

from allscreens.errors import InvalidText
from allscreens.orders import MIRRORS
from allscreens.stages import is_name

MOST_DIGITS = 15


def is_integer(word):
    """Tell if a word is an integer: no leading zeros, a sign only if it is negative."""
    digits = word[1:] if word.startswith("-") else word
    if not 1 <= len(digits) <= MOST_DIGITS or not all(["0" <= digit <= "9" for digit in digits]):
        return False
    return word == "0" or digits[0] != "0"


def are_integers(words):
    """Tell if all words are integers."""
    return all([is_integer(word) for word in words])


def integers_of(words):
    """Return a tuple of the integers that the words are."""
    return tuple([int(word) for word in words])


def fill_of(words):
    """Return the order of a line "fill", None if it does not have this form."""
    if len(words) != 7 or not is_name(words[1]) or not are_integers(words[2:]):
        return None
    return ("fill", words[1], integers_of(words[2:6]), int(words[6]))


def recolour_of(words):
    """Return the order of a line "recolour", None if it does not have this form."""
    if len(words) < 6 or not is_name(words[1]) or not are_integers(words[2:6]):
        return None
    pairs = [word.split("=") for word in words[6:]]
    if not all([len(pair) == 2 and are_integers(pair) for pair in pairs]):
        return None
    return ("recolour", words[1], integers_of(words[2:6]), tuple([integers_of(pair) for pair in pairs]))


def copy_of(words):
    """Return the order of a line "copy", None if it does not have this form."""
    keyed = len(words) == 13 and words[11] == "key" and is_integer(words[12])
    if len(words) != 11 and not keyed:
        return None
    source, to, surface, mirror = words[1], words[6], words[7], words[10]
    if not is_name(source) or to != "to" or not is_name(surface) or mirror not in MIRRORS:
        return None
    if not are_integers(words[2:6]) or not are_integers(words[8:10]):
        return None
    key = int(words[12]) if keyed else None
    return ("copy", source, integers_of(words[2:6]), surface, int(words[8]), int(words[9]), mirror, key)


def plain_order_of(words):
    """Return the order of a line "fill", "recolour" or "copy", None if the words do not have one of these forms."""
    if words[0] == "fill":
        return fill_of(words)
    if words[0] == "recolour":
        return recolour_of(words)
    if words[0] == "copy":
        return copy_of(words)
    return None


def order_of(words):
    """Return the order of a line that stands for an order by itself, None if it does not have such a form."""
    if words[0] == "call" and len(words) == 2 and is_name(words[1]):
        return ("call", words[1])
    return plain_order_of(words)


def place_of(word):
    """Return the number of a word, None if the word is "-"."""
    return None if word == "-" else int(word)


def frame_of(words):
    """Return an order without its tuple of orders, for the first line of such an order; None if it is no such line."""
    word = words[0]
    told = words[1:]
    if word == "mirrored" and len(told) == 2 and all([each == "-" or is_integer(each) for each in told]):
        return ("mirrored", place_of(told[0]), place_of(told[1]))
    if not are_integers(told):
        return None
    if word == "within" and len(told) == 4:
        return ("within", integers_of(told))
    if (word == "moved" and len(told) == 2) or (word == "repeat" and len(told) == 1):
        return (word, *integers_of(told))
    return None


class Reader:
    """Takes the lines of a text one after another, and keeps what it has taken."""

    def __init__(self):
        self.parts_read = []
        # What was read of the script, and of each part or order in it that has not ended, from the outermost one.
        self.bodies = [[]]
        self.heads = []

    def take(self, line):
        """Take a line. Return True if it has one of the forms at its place, otherwise False."""
        depth = len(self.heads)
        if depth > 0 and line == "  " * (depth - 1) + "end":
            self.shut()
            return True
        indentation = "  " * depth
        if not line.startswith(indentation):
            return False
        words = line[len(indentation):].split(" ")
        head = self.head_of(words)
        if head is not None:
            self.heads.append(head)
            self.bodies.append([])
            return True
        order = order_of(words)
        if order is not None:
            self.bodies[-1].append(order)
        return order is not None

    def head_of(self, words):
        """Return what the first line of a part or of an order with others inside stands for, None if it is none."""
        if words[0] == "def" and len(words) == 2 and is_name(words[1]) and self.may_have_parts():
            return ("def", words[1])
        return frame_of(words)

    def may_have_parts(self):
        """Tell if a part may stand here: all before has ended, and no order of the script was read."""
        return not self.heads and not self.bodies[0]

    def shut(self):
        """End the part or order that began last."""
        head = self.heads.pop()
        inside = tuple(self.bodies.pop())
        if head[0] == "def":
            self.parts_read.append((head[1], inside))
        else:
            self.bodies[-1].append((*head, inside))


def read_text(text):
    """Return the orders and the parts of a text, or raise InvalidText."""
    if not isinstance(text, str):
        raise InvalidText(None)
    lines = text.split("\n") if text else []
    reader = Reader()
    for index, line in enumerate(lines):
        if not reader.take(line):
            raise InvalidText(index)
    if reader.heads:
        raise InvalidText(len(lines))
    return tuple(reader.bodies[0]), tuple(reader.parts_read)
