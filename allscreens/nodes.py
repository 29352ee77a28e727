"""Reduced forms as numbers: forms have the same number exactly if they have the same value for every picture."""

from allscreens.recolouring import recoloured


class Nodes:
    """Reduced forms, each with a number.

    A node is ("colour", COLOUR), ("cell", CELL) or ("ask", CELL, BRANCHES, OTHER), like a form, but with numbers in
    place of the forms inside of it. Instead of cells there may be anything that is ordered.
    """

    def __init__(self):
        self.nodes = []
        self.numbers = {}
        # What was worked out before: the same is asked again and again.
        self.settled = {}
        self.decisions = {}
        self.written = {}

    def number_of(self, node):
        """Return the number of a node."""
        if node not in self.numbers:
            self.numbers[node] = len(self.nodes)
            self.nodes.append(node)
        return self.numbers[node]

    def put(self, number, cell, colour):
        """Return the reduced form with a colour put for a cell."""
        key = (number, cell, colour)
        if key not in self.settled:
            self.settled[key] = self.with_put(self.nodes[number], cell, colour)
        return self.settled[key]

    def with_put(self, node, cell, colour):
        """Return the reduced form of a node with a colour put for a cell."""
        if node == ("cell", cell):
            return self.number_of(("colour", colour))
        if node[0] != "ask":
            return self.number_of(node)
        _, asked, branches, other = node
        if asked == cell:
            return dict(branches).get(colour, self.put(other, cell, colour))
        return self.asking(
            asked, [(old, self.put(inside, cell, colour)) for old, inside in branches], self.put(other, cell, colour))

    def rest(self, number, cell):
        """Return what is left of a reduced form if the cell has none of the colours for which its first "ask" asks."""
        node = self.nodes[number]
        return node[3] if node[0] == "ask" and node[1] == cell else number

    def colours_asked(self, number, cell):
        """Return the colours for which the first "ask" of a reduced form asks, if it is one of this cell."""
        node = self.nodes[number]
        return [colour for colour, _ in node[2]] if node[0] == "ask" and node[1] == cell else []

    def asking(self, cell, branches, other):
        """Return the reduced form of an "ask".

        The branches are pairs (colour, number) and do not have the cell in them; all other cells that are asked are
        greater.
        """
        kept = tuple([(colour, inside) for colour, inside in branches if inside != self.put(other, cell, colour)])
        return self.number_of(("ask", cell, kept, other)) if kept else other

    def decided(self, cell, branches, other):
        """Return the reduced form of an "ask" of a cell, whatever its branches and the other one are."""
        key = (cell, tuple(branches), other)
        if key not in self.decisions:
            numbers = [other, *[inside for _, inside in branches]]
            asked = [self.nodes[number][1] for number in numbers if self.nodes[number][0] == "ask"]
            first = min([cell, *asked])
            if first == cell:
                self.decisions[key] = self.decided_at_once(cell, branches, other)
            else:
                self.decisions[key] = self.decided_behind(first, cell, branches, other)
        return self.decisions[key]

    def decided_at_once(self, cell, branches, other):
        """Return the reduced form of an "ask" of a cell, where no lesser one is asked."""
        given = dict(branches)
        colours = sorted(set([*given, *self.colours_asked(other, cell)]))
        return self.asking(
            cell, [(colour, self.put(given.get(colour, other), cell, colour)) for colour in colours],
            self.rest(other, cell))

    def decided_behind(self, first, cell, branches, other):
        """Return the reduced form of an "ask" of a cell, where a lesser one, the least of all, is asked first."""
        numbers = [other, *[inside for _, inside in branches]]
        found = []
        for colour in sorted({each for number in numbers for each in self.colours_asked(number, first)}):
            inner = [(old, self.put(inside, first, colour)) for old, inside in branches]
            found.append((colour, self.decided(cell, inner, self.put(other, first, colour))))
        inner = [(old, self.rest(inside, first)) for old, inside in branches]
        return self.asking(first, found, self.decided(cell, inner, self.rest(other, first)))

    def turned(self, number, pairs):
        """Return the reduced form of the colour into which recolouring by pairs turns that of a reduced form."""
        node = self.nodes[number]
        if node[0] == "colour":
            return self.number_of(("colour", recoloured(node[1], pairs)))
        if node[0] == "cell":
            return self.decided(node[1], [(old, self.number_of(("colour", new))) for old, new in pairs], number)
        _, cell, branches, other = node
        return self.decided(
            cell, [(colour, self.turned(inside, pairs)) for colour, inside in branches], self.turned(other, pairs))

    def unless(self, number, key, instead):
        """Return the reduced form of the colour of a reduced form, but that of another one if the first is the key."""
        node = self.nodes[number]
        if node[0] == "colour":
            return instead if node[1] == key else number
        if node[0] == "cell":
            return self.decided(node[1], [(key, instead)], number)
        _, cell, branches, other = node
        return self.decided(
            cell, [(colour, self.unless(inside, key, instead)) for colour, inside in branches],
            self.unless(other, key, instead))

    def number_of_form(self, form):
        """Return the number of the reduced form of a form."""
        if form[0] != "ask":
            return self.number_of(form)
        _, cell, branches, other = form
        return self.decided(
            cell, [(colour, self.number_of_form(inside)) for colour, inside in branches], self.number_of_form(other))

    def cells_in(self, number):
        """Return the cells in a reduced form, perhaps several times."""
        node = self.nodes[number]
        if node[0] != "ask":
            return [node[1]] if node[0] == "cell" else []
        inner = [inside for _, inside in node[2]]
        return [node[1], *[cell for each in [*inner, node[3]] for cell in self.cells_in(each)]]

    def colours_in(self, number):
        """Return the colours in a reduced form, perhaps several times."""
        node = self.nodes[number]
        if node[0] != "ask":
            return [node[1]] if node[0] == "colour" else []
        inner = [inside for _, inside in node[2]]
        asked = [colour for colour, _ in node[2]]
        return [*asked, *[colour for each in [*inner, node[3]] for colour in self.colours_in(each)]]

    def form_of(self, number):
        """Return a reduced form as a tuple."""
        if number not in self.written:
            self.written[number] = self.form_of_node(self.nodes[number])
        return self.written[number]

    def form_of_node(self, node):
        """Return the reduced form of a node as a tuple."""
        if node[0] != "ask":
            return node
        _, cell, branches, other = node
        written = tuple([(colour, self.form_of(inside)) for colour, inside in branches])
        return ("ask", cell, written, self.form_of(other))
