"""Scripts: lists of drawing orders for a stage."""

from allscreens.counting import check_counts, parts_without_empty, without_empty
from allscreens.errors import InvalidOrder, NotAScript
from allscreens.limits import MOST_PARTS
from allscreens.lines import lines_of
from allscreens.orders import wrong_path
from allscreens.reading import read_text
from allscreens.stages import check_same_stage, check_stage, is_name
from allscreens.strokes import strokes_of


class Script:
    """A script."""

    def __init__(self, stage, orders=(), *, parts=()):
        check_stage(stage)
        check_tuples(orders, parts)
        check_orders(stage, orders, parts)
        self._stage = stage
        self._orders = orders
        self._parts = parts
        kept_parts = parts_without_empty(parts)
        kept = without_empty(orders, kept_parts)
        check_counts(kept, kept_parts)
        self._strokes = strokes_of(stage, kept, kept_parts)

    @classmethod
    def read(cls, stage, text):
        """Return the script with this text."""
        check_stage(stage)
        orders, parts = read_text(text)
        return cls(stage, orders, parts=parts)

    @staticmethod
    def is_order(stage, value):
        """Tell if the value is an order for the stage, without any "call" in it."""
        check_stage(stage)
        return wrong_path(stage, (value,), ()) is None

    @property
    def stage(self):
        """The stage of the script."""
        return self._stage

    @property
    def orders(self):
        """The tuple of the orders."""
        return self._orders

    @property
    def parts(self):
        """The tuple of the parts, pairs of a name and a tuple of orders."""
        return self._parts

    @property
    def strokes(self):
        """The tuple of the strokes."""
        return self._strokes

    def __add__(self, other):
        check_same_stage(self._stage, other._stage)
        return Script(self._stage, self._strokes + other._strokes)

    def __str__(self):
        return "\n".join(lines_of(self._orders, self._parts))

    def __len__(self):
        return len(self._strokes)

    def __eq__(self, other):
        if not isinstance(other, Script) or self._stage != other._stage:
            return False
        return self._orders == other._orders and self._parts == other._parts

    def __repr__(self):
        return f"Script({len(self._strokes)} strokes)"


def check_script(value):
    """Raise NotAScript if the value is not a Script."""
    if not isinstance(value, Script):
        raise NotAScript(value)


def is_part(value):
    """Tell if the value is a pair of a name and a tuple."""
    return isinstance(value, tuple) and len(value) == 2 and is_name(value[0]) and isinstance(value[1], tuple)


def are_parts(value):
    """Tell if the value is a tuple of the parts of a script, whatever is in their tuples of orders."""
    if not isinstance(value, tuple) or len(value) > MOST_PARTS or not all([is_part(part) for part in value]):
        return False
    return all([part[0] < later[0] for part, later in zip(value, value[1:])])


def check_tuples(orders, parts):
    """Raise InvalidOrder, with the path (), for the tuples of orders and parts themselves."""
    if not are_parts(parts) or not isinstance(orders, tuple):
        raise InvalidOrder(())


def check_orders(stage, orders, parts):
    """Raise InvalidOrder for the first value in the parts, then in the orders, that is not an order there."""
    names = [name for name, _ in parts]
    for at, (name, inside) in enumerate(parts):
        path = wrong_path(stage, inside, names[:at])
        if path is not None:
            raise InvalidOrder((name, *path))
    path = wrong_path(stage, orders, names)
    if path is not None:
        raise InvalidOrder(path)
