"""The errors of the program. Each keeps what it was created with in one attribute, or has none."""


class FormError(ValueError):
    """A value does not have the form that is asked for."""


class InvalidStage(FormError):
    """The value is not a stage."""

    def __init__(self, value):
        self.value = value


class InvalidSurface(FormError):
    """The value is not the name of a surface of the stage."""

    def __init__(self, value):
        self.value = value


class InvalidCell(FormError):
    """The value is not a cell of the stage."""

    def __init__(self, value):
        self.value = value


class InvalidRect(FormError):
    """The value is not a rectangle."""

    def __init__(self, value):
        self.value = value


class InvalidNumber(FormError):
    """The value is not an integer that fits."""

    def __init__(self, value):
        self.value = value


class InvalidColour(FormError):
    """The value is not a colour."""

    def __init__(self, value):
        self.value = value


class InvalidPairs(FormError):
    """The value is not a tuple of pairs of colours, ascending by the old ones."""

    def __init__(self, value):
        self.value = value


class InvalidForm(FormError):
    """The value is not a form for the stage."""

    def __init__(self, value):
        self.value = value


class InvalidPatch(FormError):
    """The element with this index is not a patch of a picture."""

    def __init__(self, index):
        self.index = index


class InvalidPass(FormError):
    """The element with this index is not the name of a pass."""

    def __init__(self, index):
        self.index = index


class InvalidEdit(FormError):
    """The element with this index is not an edit of a board."""

    def __init__(self, index):
        self.index = index


class InvalidOrder(FormError):
    """The indexes of this path lead to what is not an order."""

    def __init__(self, path):
        self.path = path


class InvalidText(FormError):
    """The line with this index has none of the forms of a script's text."""

    def __init__(self, line):
        self.line = line


class InvalidLine(FormError):
    """The value is not a line that the console answers."""

    def __init__(self, value):
        self.value = value


class NotAScript(FormError):
    """The value is not a Script."""

    def __init__(self, value):
        self.value = value


class NotAPicture(FormError):
    """The value is not a Picture."""

    def __init__(self, value):
        self.value = value


class StateError(LookupError):
    """Valid values that do not go together, or not as things stand."""


class DifferentStages(StateError):
    """Scripts and pictures that are used together have different stages."""


class UsesKeys(StateError):
    """A stroke of the script has a KEY."""


class NoBeginning(StateError):
    """No picture at the beginning fits."""


class Guarded(StateError):
    """A guarded cell of the surface with this name could change."""

    def __init__(self, name):
        self.name = name


class Busy(StateError):
    """The board is at work, and cannot be changed."""


class NothingToUndo(StateError):
    """The log of the board has no edit."""


class LimitError(ArithmeticError):
    """Something would be more than the limits allow."""


class TooManyOrders(LimitError):
    """The script that is written out would have this number of orders."""

    def __init__(self, found):
        self.found = found


class TooManyCopies(LimitError):
    """The script that is written out would have this number of copies."""

    def __init__(self, found):
        self.found = found


class TooManyKeys(LimitError):
    """The script that is written out would have this number of copies with a KEY."""

    def __init__(self, found):
        self.found = found


class TooManyRecolours(LimitError):
    """The script that is written out would have this number of recolourings."""

    def __init__(self, found):
        self.found = found


class TooManyEdits(LimitError):
    """The log of the board has this number of edits already."""

    def __init__(self, found):
        self.found = found
