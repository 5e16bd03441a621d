"""What a drawing finds in a tree: its first picture, or both sides of a join."""

from mendbooks.base.pictures import HOLE, MAX_LEVELS, Picture, depth_of, is_sound_picture, split_text, spots_of
from mendbooks.books.lines import difference_of, node_text
from mendbooks.errors import InvalidPicture

# The greatest difference of a join.
MAX_JOINED = 2
_GONE = "x"


class Found:
    """What a drawing finds at its place, and the pictures that tell it from others of this place.

    An end is a hole, as a pair of a path and a spot. `was` is the spot of what stood there, None if it does not
    matter. `told` is the number of names in the hand that the drawing is told.
    """

    def __init__(self, where, pictures, ends, was, told):
        self.where = where
        self.pictures = pictures
        self.ends = ends
        self.was = was
        self.told = told


def found_by(scheme, kind, words, most):
    """What the drawing finds whose first picture has these words; None if it is not sound.

    `most` bounds the difference of an odd child.
    """
    if kind == "put":
        return Found(("put",), (), (), (scheme.bare, 0), 0)
    if kind == "join":
        return _found_by_join(scheme, words)
    if kind == "top":
        return _found_by_top(scheme, words[0])
    if depth_of(words[0]) > MAX_LEVELS:
        return None
    top = split_text(words[0])
    if top is None:
        return None
    called, texts = top
    if kind == "cut":
        return _found_by_cut(scheme, called, texts)
    return _found_by_mend(scheme, called, texts, most)


def picture_of(text):
    """The picture with this text, None if there is none."""
    try:
        return Picture(text)
    except InvalidPicture:
        return None


def side_of(scheme, text):
    """The sort of a hand or of a side, and its picture, a hole if it is a sort; None if it is neither."""
    if text in scheme.sorts:
        return text, Picture(HOLE)
    picture = picture_of(text)
    if picture is None or not is_sound_picture(scheme, picture):
        return None
    return scheme[picture.called].sort_name, picture


def _found_by_cut(scheme, called, texts):
    gone = [index for index, text in enumerate(texts) if text == _GONE]
    frame = _frame_of(scheme, called, texts, gone)
    if frame is None or scheme[called][gone[0]][0] != scheme.bare:
        return None
    holes = _holes_of_frame(scheme, frame, gone[0], [])
    return Found(("cut", called, gone[0]), (frame,), holes, (scheme[called].sort_name, 0), 0)


def _found_by_mend(scheme, called, texts, most):
    odd = [index for index, text in enumerate(texts) if text.startswith("!")]
    frame = _frame_of(scheme, called, texts, odd)
    if frame is None:
        return None
    number, _, hand = texts[odd[0]][1:].partition(":")
    difference = difference_of(number, most)
    side = side_of(scheme, hand)
    sort, step = scheme[called][odd[0]]
    if difference is None or side is None or (difference == 0 and side[0] == sort):
        return None
    holes = _holes_of_frame(scheme, frame, odd[0], _holes_at(scheme, side, (odd[0],), difference - step))
    place = ("mend", called, odd[0], difference, hand)
    return Found(place, (frame,), holes, (scheme[called].sort_name, 0), len(side[1]))


def _found_by_top(scheme, text):
    side = side_of(scheme, text)
    if side is None or not side[1] or side[0] in scheme.tops:
        return None
    return Found(("top", text), (), tuple(_holes_at(scheme, side, (), 0)), None, len(side[1]))


def _found_by_join(scheme, words):
    left = side_of(scheme, words[0])
    right = side_of(scheme, words[1])
    difference = difference_of(words[2], MAX_JOINED)
    if left is None or right is None or difference is None:
        return None
    holes = [*_holes_at(scheme, left, (0,), 0), *_holes_at(scheme, right, (1,), difference)]
    return Found(("join", left[0], right[0], difference), (left[1], right[1]), tuple(holes), None, 0)


def _frame_of(scheme, called, texts, odd):
    """The sound picture in which the one odd child is a hole; None if there is none."""
    if len(odd) != 1:
        return None
    frame = picture_of(node_text(called, [HOLE if index in odd else text for index, text in enumerate(texts)]))
    return frame if frame is not None and is_sound_picture(scheme, frame) else None


def _holes_of_frame(scheme, frame, odd, instead):
    """The holes of a first picture, with others instead of the one that is the odd child."""
    holes = []
    for index, (sort, step) in enumerate(scheme[frame.called]):
        if index == odd:
            holes.extend(instead)
        else:
            holes.extend(_holes_at(scheme, (sort, frame.parts[index]), (index,), -step))
    return tuple(holes)


def _holes_at(scheme, side, path, level):
    """The list of the holes of a sort or a picture that stands at a path and a level."""
    sort, picture = side
    if not picture:
        return [(path, (sort, level))]
    spots = spots_of(scheme, picture)
    return [((*path, *below), (name, level + lower)) for below, (name, lower) in zip(_paths_of_holes(picture), spots)]


def _paths_of_holes(picture):
    """The list of the paths that lead to the holes of a picture."""
    if not picture:
        return [()]
    return [(index, *path) for index, part in enumerate(picture.parts) for path in _paths_of_holes(part)]
