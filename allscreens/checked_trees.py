"""Colours at the end, as the checker finds them: for one picture, or for all pictures by trees."""

from allscreens.checked_ways import has_cell, is_written, source_of, target_of


class Shown:
    """The colours of one picture, in which cells have told colours and all others 0."""

    def __init__(self, told):
        self.told = dict(told)

    def of_cell(self, cell):
        """Return the colour of a cell."""
        return self.told.get(cell, 0)

    def of_colour(self, colour):
        """Return a colour."""
        return colour

    def turned(self, colour, pairs):
        """Return what becomes of a colour by recolouring."""
        return dict(pairs).get(colour, colour)

    def unless(self, colour, key, instead):
        """Return a colour, or another one if it is the key."""
        return instead if colour == key else colour


class Trees:
    """Colours that depend on cells, as numbers: they are the same exactly if the colours are, for every picture.

    A tree ("ask", CELL, INNER) has a number for each of the named colours that the cell may have, in their order, and
    one for all others. Leaves are ("colour", COLOUR), and ("other", CELL) for the colour of a cell that is none of the
    named ones. All colours by which strokes tell colours apart are named. There are more others than cells: so two
    leaves that are not the same have different colours in some picture.
    """

    def __init__(self, named):
        self.named = named
        self.trees = []
        self.numbers = {}
        # What was worked out before: it is asked again and again.
        self.known = {}

    def number_of(self, tree):
        """Return the number of a tree."""
        if tree not in self.numbers:
            self.numbers[tree] = len(self.trees)
            self.trees.append(tree)
        return self.numbers[tree]

    def asking(self, cell, inner):
        """Return the number of the tree that asks a cell, or of what it has inside if that is always the same."""
        if all([number == inner[0] for number in inner]):
            return inner[0]
        return self.number_of(("ask", cell, tuple(inner)))

    def of_cell(self, cell):
        """Return the colour of a cell."""
        named = [self.of_colour(colour) for colour in self.named]
        return self.asking(cell, [*named, self.number_of(("other", cell))])

    def of_colour(self, colour):
        """Return a colour."""
        return self.number_of(("colour", colour))

    def turned(self, number, pairs):
        """Return what becomes of a colour by recolouring."""
        tree = self.trees[number]
        if tree[0] == "colour":
            return self.of_colour(dict(pairs).get(tree[1], tree[1]))
        if tree[0] == "other":
            return number
        known = (number, pairs)
        if known not in self.known:
            self.known[known] = self.asking(tree[1], [self.turned(inner, pairs) for inner in tree[2]])
        return self.known[known]

    def unless(self, number, key, instead):
        """Return a colour, or another one if it is the key."""
        tree = self.trees[number]
        if tree[0] != "ask":
            return instead if tree == ("colour", key) else number
        known = (number, key, instead)
        if known not in self.known:
            other = self.trees[instead]
            cell = min(tree[1], other[1]) if other[0] == "ask" else tree[1]
            self.known[known] = self.asking(cell, [
                self.unless(self.given(number, cell, at), key, self.given(instead, cell, at))
                for at in range(len(self.named) + 1)
            ])
        return self.known[known]

    def given(self, number, cell, at):
        """Return what is left of a tree if a cell, the first one that may be asked, has the colour with this index."""
        tree = self.trees[number]
        return tree[2][at] if tree[0] == "ask" and tree[1] == cell else number


def at_end(colours, strokes, cell):
    """Return the colour of a cell at the end; the colours are Shown or Trees."""
    if not strokes:
        return colours.of_cell(cell)
    before, stroke = strokes[:-1], strokes[-1]
    if not is_written(stroke, cell):
        return at_end(colours, before, cell)
    if stroke[0] == "fill":
        return colours.of_colour(stroke[3])
    if stroke[0] == "recolour":
        return colours.turned(at_end(colours, before, cell), stroke[3])
    read = at_end(colours, before, source_of(stroke, cell))
    if stroke[7] is None:
        return read
    return colours.unless(read, stroke[7], at_end(colours, before, cell))


def told_apart(strokes):
    """Return the colours by which strokes tell colours apart, perhaps several times."""
    keys = [stroke[7] for stroke in strokes if stroke[0] == "copy" and stroke[7] is not None]
    return [*keys, *[pair[0] for stroke in strokes if stroke[0] == "recolour" for pair in stroke[3]]]


def same_at_end(strokes, other_strokes, cell):
    """Tell if a cell ends with the same colour through two tuples of strokes, for every picture."""
    trees = Trees(sorted(set([*told_apart(strokes), *told_apart(other_strokes)])))
    return at_end(trees, strokes, cell) == at_end(trees, other_strokes, cell)


def carried(strokes, cell, colours):
    """Return what becomes at the end of each of some colours that a cell may have at the beginning.

    That is a list with a tuple for each cell to which the strokes, which have no KEY, carry its colour.
    """
    found = {cell: tuple(colours)}
    for stroke in strokes:
        behind = {place: kept for place, kept in found.items() if not is_written(stroke, place)}
        if stroke[0] == "recolour":
            new = dict(stroke[3])
            for place in found:
                if is_written(stroke, place):
                    behind[place] = tuple([new.get(colour, colour) for colour in found[place]])
        if stroke[0] == "copy":
            for place in found:
                if has_cell(stroke[1], stroke[2], place):
                    behind[target_of(stroke, place)] = found[place]
        found = behind
    return list(found.values())
