"""Passes: scripts made simpler, and alike to what they were."""

from allscreens.differences import unlike_cell
from allscreens.errors import InvalidPass
from allscreens.orders import MIRRORS
from allscreens.rects import overlap
from allscreens.scripts import Script, check_script
from allscreens.spans import bands_of, rects_of
from allscreens.strokes import back_of, has_key, target_of


def without_idle(script):
    """Return the script without the strokes, from the first to the last, without which it stays alike."""
    check_script(script)
    strokes = script.strokes
    at = 0
    while at < len(strokes):
        others = strokes[:at] + strokes[at + 1:]
        if unlike_cell(script.stage, strokes, others) is None:
            strokes = others
        else:
            at += 1
    return Script(script.stage, strokes)


def fills_joined(script):
    """Return the script with neighbouring fills of one colour as one, where together they fill a rectangle."""
    check_script(script)
    strokes = script.strokes
    joined = with_fills_joined(strokes)
    while joined is not None:
        strokes = joined
        joined = with_fills_joined(strokes)
    return Script(script.stage, strokes)


def copies_direct(script):
    """Return the script with copies of what was copied there taken from where that came from."""
    check_script(script)
    strokes = []
    for stroke in script.strokes:
        strokes.append(most_direct(strokes, stroke))
    return Script(script.stage, tuple(strokes))


# The passes by the names that `optimized` takes.
PASSES = {"idle": without_idle, "fills": fills_joined, "copies": copies_direct}


def optimized(script, *passes):
    """Return the script behind the named passes, one after another."""
    check_script(script)
    for index, name in enumerate(passes):
        if not isinstance(name, str) or name not in PASSES:
            raise InvalidPass(index)
    found = Script(script.stage, script.strokes)
    for name in passes:
        one_pass = PASSES[name]
        found = one_pass(found)
    return found


def with_fills_joined(strokes):
    """Return the strokes with the first two neighbouring fills that can be joined as one, None if there are none."""
    for at in range(len(strokes) - 1):
        joined = fill_of_both(strokes[at], strokes[at + 1])
        if joined is not None:
            return (*strokes[:at], joined, *strokes[at + 2:])
    return None


def fill_of_both(stroke, other):
    """Return the "fill" that does what two strokes do if both are such fills, otherwise None."""
    if stroke[0] != "fill" or other[0] != "fill" or stroke[1] != other[1] or stroke[3] != other[3]:
        return None
    rects = rects_of(bands_of([stroke[2], other[2]]))
    return ("fill", stroke[1], rects[0], stroke[3]) if len(rects) == 1 else None


def is_plain_copy(stroke):
    """Tell if a stroke is a "copy" without a KEY."""
    return stroke[0] == "copy" and not has_key(stroke)


def touches(stroke, surface, rect):
    """Tell if a stroke writes a point of a rectangle of a surface."""
    written, target = target_of(stroke)
    return written == surface and overlap(target, rect) is not None


def most_direct(before, stroke):
    """Return a stroke behind others, taking its colours, if it is a "copy", from as far back as possible."""
    direct = more_direct(before, stroke)
    while direct is not None:
        stroke = direct
        direct = more_direct(before, stroke)
    return stroke


def more_direct(before, copy):
    """Return a stroke behind others as a "copy" from where one of these took what it reads, None if it can be none."""
    if not is_plain_copy(copy):
        return None
    writers = [at for at, stroke in enumerate(before) if touches(stroke, copy[1], copy[2])]
    if not writers or not is_plain_copy(before[writers[-1]]):
        return None
    first = before[writers[-1]]
    if overlap(target_of(first)[1], copy[2]) != copy[2]:
        return None
    read = back_of(first).image(copy[2])
    if any([touches(stroke, first[1], read) for stroke in before[writers[-1]:]]):
        return None
    return ("copy", first[1], read, *copy[3:6], mirror_of_both(first[6], copy[6]), None)


def mirror_of_both(word, other):
    """Return the MIRROR of two copies one behind the other."""
    across = (word in ("across", "both")) != (other in ("across", "both"))
    down = (word in ("down", "both")) != (other in ("down", "both"))
    return MIRRORS[(1 if across else 0) + (2 if down else 0)]
