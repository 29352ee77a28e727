"""A console: it answers lines about a board."""

from allscreens.board import Board
from allscreens.comparing import idle
from allscreens.damage import damage, needs
from allscreens.errors import InvalidLine
from allscreens.pictures import Picture
from allscreens.reading import are_integers, integers_of, plain_order_of
from allscreens.stages import is_name


class Console:
    """Keeps a board, whose base is at first all of the colour 0, and answers lines."""

    def __init__(self, stage):
        self._board = Board(Picture(stage))

    def say(self, line):
        """Answer a line with a string."""
        words = line.split(" ") if isinstance(line, str) else []
        request = request_of(words)
        if request is None:
            raise InvalidLine(line)
        return answer(self._board, request)


def request_of(words):
    """Return what the words of a line ask for, None if they do not have one of the forms of a line.

    That is a tuple of the first word and what follows: an order, an index, or the name of a surface and integers.
    """
    if len(words) == 0:
        return None
    word = words[0]
    told = words[1:]
    if word == "add":
        order = plain_order_of(told) if told else None
        return None if order is None else (word, order)
    if word == "remove" and len(told) == 1 and are_integers(told):
        return (word, *integers_of(told))
    if word == "colour" and len(told) == 3 and is_name(told[0]) and are_integers(told[1:]):
        return (word, told[0], *integers_of(told[1:]))
    if (word == "damage" or word == "needs") and len(told) == 1 and is_name(told[0]):
        return (word, told[0])
    return (word,) if word in ("undo", "idle", "orders", "text") and not told else None


def answer(board, request):
    """Return the answer to what a line asks for."""
    word = request[0]
    if word == "add":
        return changes_told(board.insert_order(len(board), request[1]))
    if word == "remove":
        return changes_told(board.remove_order(request[1]))
    if word == "undo":
        return changes_told(board.undo())
    if word == "colour":
        return str(board.shown[request[1:]])
    if word == "damage":
        return told_or_dash(rects_told(damage(board.script, request[1])))
    if word == "needs":
        return told_or_dash(rects_told(needs(board.script, request[1])))
    if word == "idle":
        return told_or_dash(" ".join([str(index) for index in idle(board.script)]))
    if word == "orders":
        return str(len(board))
    return str(board.script).replace("\n", "; ")


def told_or_dash(text):
    """Return a text, or a dash in place of an empty one."""
    return text if text else "-"


def rects_told(region):
    """Return the rectangles of a region as a string."""
    return ", ".join([f"{x} {y} {width} {height}" for x, y, width, height in region.rects])


def changes_told(changes):
    """Return what an edit can change as a string."""
    return told_or_dash("; ".join([f"{name} {rects_told(region)}" for name, region in changes]))
