"""Forms: how a colour depends on a picture."""

from allscreens.colours import is_colour
from allscreens.errors import InvalidForm
from allscreens.nodes import Nodes
from allscreens.pictures import check_picture
from allscreens.stages import check_stage, is_cell


def is_form(stage, value):
    """Tell if the value is a form for the stage."""
    check_stage(stage)
    return is_form_there(stage, value)


def reduced(stage, form):
    """Return the reduced form with the same value for every picture."""
    check_stage(stage)
    check_form(stage, form)
    nodes = Nodes()
    return nodes.form_of(nodes.number_of_form(form))


def value_of(picture, form):
    """Return the value of the form for the picture."""
    check_picture(picture)
    check_form(picture.stage, form)
    while form[0] == "ask":
        _, cell, branches, other = form
        form = dict(branches).get(picture[cell], other)
    return form[1] if form[0] == "colour" else picture[form[1]]


def same_value(stage, form, other_form):
    """Tell if both forms have the same value for every picture."""
    check_stage(stage)
    check_form(stage, form)
    check_form(stage, other_form)
    nodes = Nodes()
    return nodes.number_of_form(form) == nodes.number_of_form(other_form)


def check_form(stage, value):
    """Raise InvalidForm if the value is not a form for the stage, which is valid."""
    if not is_form_there(stage, value):
        raise InvalidForm(value)


def is_form_there(stage, value):
    """Tell if the value is a form for a stage, which is valid."""
    if not isinstance(value, tuple) or len(value) == 0 or not isinstance(value[0], str):
        return False
    word = value[0]
    if word == "colour":
        return len(value) == 2 and is_colour(value[1])
    if word == "cell":
        return len(value) == 2 and is_cell(stage, value[1])
    if word != "ask" or len(value) != 4 or not is_cell(stage, value[1]):
        return False
    return are_branches(stage, value[2]) and is_form_there(stage, value[3])


def are_branches(stage, value):
    """Tell if the value is a tuple of one or more pairs (COLOUR, form), ascending by the colours."""
    if not isinstance(value, tuple) or len(value) == 0:
        return False
    for pair in value:
        if not isinstance(pair, tuple) or len(pair) != 2 or not is_colour(pair[0]):
            return False
    if not all([pair[0] < later[0] for pair, later in zip(value, value[1:])]):
        return False
    return all([is_form_there(stage, inside) for _, inside in value])
