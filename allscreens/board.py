"""Boards: lists of orders that are edited, and the pictures that they show."""

from allscreens.differences import changes_between
from allscreens.edits import check_edit, check_edits, edited
from allscreens.errors import Busy, Guarded, NothingToUndo, TooManyEdits
from allscreens.painting import painted
from allscreens.pictures import check_picture
from allscreens.rects import check_rect
from allscreens.regions import Region
from allscreens.scripts import Script
from allscreens.stages import check_same_stage, check_surface


class Board:
    """A picture, its base, and a list of orders: it shows what comes of them."""

    # The greatest number of edits in the log.
    MOST = 100

    def __init__(self, picture):
        check_picture(picture)
        self._base = picture
        self._script = Script(picture.stage)
        # Pairs of an edit that was made and not undone, and the script before it.
        self._steps = ()
        self._busy = False

    @property
    def stage(self):
        """The stage of the board."""
        return self._base.stage

    @property
    def orders(self):
        """The tuple of the orders."""
        return self._script.orders

    @property
    def script(self):
        """The script of the orders."""
        return self._script

    @property
    def shown(self):
        """The picture to which the orders lead from the base."""
        return painted(self._script.strokes, self._base)

    @property
    def log(self):
        """The tuple of the edits that were made and not undone."""
        return tuple([edit for edit, _ in self._steps])

    @property
    def busy(self):
        """True while `do_all` or `tried` works, otherwise False."""
        return self._busy

    @property
    def base(self):
        """The base."""
        return self._base

    @base.setter
    def base(self, value):
        self._check_free()
        check_picture(value)
        check_same_stage(self.stage, value.stage)
        self._base = value

    def change_base(self, picture):
        """Assign the base."""
        self.base = picture

    def do(self, edit):
        """Make an edit. Return pairs (name, region) of all cells whose shown colour it can change, for some base."""
        self._check_free()
        check_edit(edit)
        return self._made(edit)

    def insert_order(self, index, order):
        """Put an order in; it has this index then."""
        return self.do(("insert", index, order))

    def remove_order(self, index):
        """Take the order with this index out."""
        return self.do(("remove", index))

    def replace_order(self, index, order):
        """Put an order in the place of another one."""
        return self.do(("replace", index, order))

    def move_order(self, index, place):
        """Take the order with this index out, and put it in again; it has the index `place` then."""
        return self.do(("move", index, place))

    def do_all(self, edits, *, watch=None):
        """Make edits in order, all or none; behind each of them watch(board, index) is called.

        Return the tuple of what `do` returns for each of them.
        """
        self._check_free()
        check_edits(edits)
        script, steps, told = self._script, self._steps, None
        self._busy = True
        try:
            told = self._all_made(edits, watch)
        finally:
            self._busy = False
            if told is None:
                self._script, self._steps = script, steps
        return told

    def undo(self):
        """Undo the last edit of the log. Return what `do` returns for such a change."""
        self._check_free()
        if not self._steps:
            raise NothingToUndo()
        _, script = self._steps[-1]
        changes = self._changes_to(script)
        self._script, self._steps = script, self._steps[:-1]
        self._note(("undo",), changes)
        return changes

    def tried(self, edits, look):
        """Make edits, call look(board), take all edits back, and return what `look` returned."""
        self._check_free()
        check_edits(edits)
        script, steps = self._script, self._steps
        self._busy = True
        try:
            self._all_made(edits, None)
            return look(self)
        finally:
            self._busy = False
            self._script, self._steps = script, steps

    def __len__(self):
        return len(self._script.orders)

    def __repr__(self):
        return f"{kind_of(self)}({len(self._script.orders)} orders)"

    def _check_free(self):
        """Raise Busy while the board is at work."""
        if self._busy:
            raise Busy()

    def _all_made(self, edits, watch):
        """Make edits in order. Return the tuple of what each of them can change."""
        found = []
        for index, edit in enumerate(edits):
            found.append(self._made(edit))
            if watch is not None:
                watch(self, index)
        return tuple(found)

    def _made(self, edit):
        """Make an edit, and return what it can change."""
        script = Script(self.stage, edited(self.stage, self.orders, edit))
        if len(self._steps) >= self.MOST:
            raise TooManyEdits(len(self._steps))
        changes = self._changes_to(script)
        self._script, self._steps = script, (*self._steps, (edit, self._script))
        self._note(edit, changes)
        return changes

    def _changes_to(self, script):
        """Return what can change if a script takes the place of that of the board, if nothing bars it."""
        changes = changes_between(self.stage, self._script.strokes, script.strokes)
        self._check_guards(changes)
        return changes

    def _check_guards(self, changes):
        """Raise what bars these changes. Other boards do."""

    def _note(self, edit, changes):
        """Keep what was made and what it can change. Other boards do."""


class NotedBoard(Board):
    """A board that keeps notes of all edits and undos."""

    def __init__(self, picture):
        super().__init__(picture)
        self._notes = ()

    def notes(self):
        """Return the tuple of the pairs (edit, what it returned) of all edits and undos that were made."""
        return self._notes

    def do_all(self, edits, *, watch=None):
        """Make edits as other boards do, and keep no notes if an error is raised."""
        notes, told = self._notes, None
        try:
            told = super().do_all(edits, watch=watch)
        finally:
            if told is None:
                self._notes = notes
        return told

    def tried(self, edits, look):
        """Try edits as other boards do, and keep no notes."""
        notes = self._notes
        try:
            return super().tried(edits, look)
        finally:
            self._notes = notes

    def _note(self, edit, changes):
        self._notes = (*self._notes, (edit, changes))


class GuardedBoard(Board):
    """A board that bars edits and undos which can change guarded cells."""

    def __init__(self, picture):
        super().__init__(picture)
        self._guards = ()

    def guard(self, surface, rect):
        """Guard the cells of a rectangle of a surface."""
        self._check_free()
        check_surface(self.stage, surface)
        check_rect(rect)
        self._guards = (*self._guards, (surface, rect))

    @property
    def guards(self):
        """The tuple of the pairs (SURFACE, RECT) that are guarded."""
        return self._guards

    def _check_guards(self, changes):
        for name, region in changes:
            rects = [rect for surface, rect in self._guards if surface == name]
            if len(region & Region(*rects)) > 0:
                raise Guarded(name)


class NotedGuardedBoard(NotedBoard, GuardedBoard):
    """A board that keeps notes and bars what can change guarded cells."""


def kind_of(board):
    """Return the name of the class of a board."""
    return board.__class__.__name__
