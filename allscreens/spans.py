"""Spans and bands: what regions are made of.

A span (start, end) is a stretch of neighbouring places of a row; the end is the first place behind it. A tuple of
spans is ascending, and no two of them touch. A band (top, bottom, spans) is a stretch of rows that have the same
spans; bottom is the first row below it. A tuple of bands is ascending, each of them has spans, and no two of them
touch and have the same spans. So the same points always give the same tuple.
"""

# What is kept of two sets of points. A point has the mark 1 if only the first set has it, 2 if only the second one
# has it, 3 if both have it.
IN_EITHER = (1, 2, 3)
IN_BOTH = (3,)
IN_FIRST_ONLY = (1,)


def mixed_spans(first, second, wanted):
    """Return the spans of the places with a wanted mark."""
    starts_and_ends = [(at, 1) for span in first for at in span] + [(at, 2) for span in second for at in span]
    spans = []
    mark = 0
    start = 0
    for end, side in sorted(starts_and_ends):
        if mark in wanted and start < end:
            if spans and spans[-1][1] == start:
                spans[-1] = (spans[-1][0], end)
            else:
                spans.append((start, end))
        # Spans of one side do not overlap: each of its bounds leads into a span or out of it.
        mark = mark ^ side
        start = end
    return tuple(spans)


def spans_between(bands, bounds, missing=()):
    """Return the spans of the rows between each of the bounds and the next one, or what stands for missing ones.

    The bounds are ascending, and the tops and bottoms of the bands are among them.
    """
    found = []
    at = 0
    for bound in bounds[:-1]:
        while at < len(bands) and bands[at][1] <= bound:
            at += 1
        if at < len(bands) and bands[at][0] <= bound:
            found.append(bands[at][2])
        else:
            found.append(missing)
    return found


def joined_bands(bands):
    """Join bands that touch and have the same spans, and leave out those without spans."""
    kept = []
    for top, bottom, spans in bands:
        if kept and kept[-1][1] == top and kept[-1][2] == spans:
            kept[-1] = (kept[-1][0], bottom, spans)
        elif spans:
            kept.append((top, bottom, spans))
    return tuple(kept)


def mixed_bands(first, second, wanted):
    """Return the bands of the points with a wanted mark."""
    bounds = sorted({bound for band in first + second for bound in band[:2]})
    of_first = spans_between(first, bounds)
    of_second = spans_between(second, bounds)
    return joined_bands([
        (bounds[at], bounds[at + 1], mixed_spans(of_first[at], of_second[at], wanted))
        for at in range(len(bounds) - 1)
    ])


def bands_of(rects):
    """Return the bands of all points of rectangles, which may overlap."""
    if len(rects) > 1:
        # By halves, so that many rectangles do not go one by one through all that were joined before.
        half = len(rects) // 2
        return mixed_bands(bands_of(rects[:half]), bands_of(rects[half:]), IN_EITHER)
    return joined_bands([
        (y, y + height, ((x, x + width),))
        for x, y, width, height in rects
        if width > 0 and height > 0
    ])


def rects_of(bands):
    """Return the tuple of the rectangles of the bands, from top to bottom and from left to right."""
    return tuple([
        (start, top, end - start, bottom - top)
        for top, bottom, spans in bands
        for start, end in spans
    ])
