"""Pictures: the upper parts of trees, with holes in the place of what is below."""

from mendbooks.base.forms import MAX_CHILDREN, Scheme
from mendbooks.base.words import is_index, is_integer, is_name
from mendbooks.errors import InvalidName, InvalidOperation, InvalidPicture, InvalidScheme, UnknownPath

MAX_LEVELS = 4
HOLE = "."


class Picture:
    """A hole, or the name of a form with pictures as its children."""

    def __init__(self, text):
        # The depth is asked for first: it also bounds how deep the parts are made in each other.
        if not isinstance(text, str) or depth_of(text) > MAX_LEVELS:
            raise InvalidPicture("no text of a picture")
        called, texts = _top_of(text)
        self._text = text
        self._called = called
        self._parts = tuple([Picture(part) for part in texts])
        if called is None:
            self._holes = 1
            self._levels = 0
            self._names = ()
        else:
            self._holes = sum([part.holes for part in self._parts])
            self._levels = 1 + max([part.levels for part in self._parts])
            below = [name for part in self._parts for name in part.names]
            self._names = (called, *below)

    @classmethod
    def of(cls, called, parts):
        """The picture with this name at the top of a tuple of pictures."""
        if not is_name(called):
            raise InvalidName("a picture is a hole or begins with a name")
        if not isinstance(parts, tuple) or not all([isinstance(part, Picture) for part in parts]):
            raise InvalidPicture("the parts of a picture are a tuple of pictures")
        inner = " ".join([part.text for part in parts])
        return cls(f"{called}({inner})")

    @property
    def text(self):
        """Its text."""
        return self._text

    @property
    def called(self):
        """The name at the top, None for a hole."""
        return self._called

    @property
    def parts(self):
        """Its children, from left to right."""
        return self._parts

    @property
    def holes(self):
        """The number of its holes."""
        return self._holes

    @property
    def levels(self):
        """How many forms deep it is."""
        return self._levels

    @property
    def names(self):
        """Its names, each one ahead of those below it, from left to right."""
        return self._names

    def paths(self):
        """The paths that lead to names, in the order of the names."""
        if self._called is not None:
            yield ()
        for index, part in enumerate(self._parts):
            for path in part.paths():
                yield (index, *path)

    def mirrored(self):
        """The picture with the children of each name in the opposite order."""
        if self._called is None:
            return Picture(HOLE)
        return Picture.of(self._called, tuple([part.mirrored() for part in self._parts[::-1]]))

    def __getitem__(self, path):
        if not isinstance(path, tuple):
            raise UnknownPath(path)
        place = self
        for index in path:
            if not is_index(index, len(place.parts)):
                raise UnknownPath(path)
            place = place.parts[index]
        return place

    def __iter__(self):
        raise TypeError("a picture is not iterated over")

    def __len__(self):
        return len(self._names)

    def __bool__(self):
        return self._called is not None

    def __eq__(self, other):
        return isinstance(other, Picture) and self.text == other.text

    def __str__(self):
        return str(self._text)


def are_apart(one, other):
    """Whether some path leads to unlike names in both pictures."""
    if not isinstance(one, Picture) or not isinstance(other, Picture):
        raise InvalidPicture("only pictures are apart")
    if one.called is None or other.called is None:
        return False
    if one.called != other.called:
        return True
    return any([are_apart(part, twin) for part, twin in zip(one.parts, other.parts)])


def is_sound_picture(scheme, value):
    """Whether the value is a picture with a name, whose names fit together in the scheme."""
    if not isinstance(scheme, Scheme):
        raise InvalidScheme("only over a scheme is a picture sound")
    if not isinstance(value, Picture) or not _is_formed(scheme, value):
        return False
    children = scheme[value.called].children
    return all([_is_sound_part(scheme, part, child[0]) for part, child in zip(value.parts, children)])


def spots_of(scheme, picture):
    """The spots of the holes of a sound picture, from left to right."""
    if not is_sound_picture(scheme, picture):
        raise InvalidPicture("only a sound picture has spots")
    return tuple(_spots_below(scheme, picture, 0))


def spot_over(scheme, picture, spots):
    """The spot of the top of a picture that holds over the spots of its holes, otherwise None."""
    if not isinstance(scheme, Scheme):
        raise InvalidScheme("only over a scheme does a picture hold")
    if not isinstance(picture, Picture):
        raise InvalidPicture("only a picture holds")
    if not isinstance(spots, tuple) or not all([_is_spot(spot) for spot in spots]):
        raise InvalidOperation("the spots of holes are a tuple of pairs of a sort and a level")
    if len(spots) != picture.holes:
        raise InvalidOperation("each hole has one spot")
    return _spot_held(scheme, picture, spots)


def split_text(text):
    """The name ahead of the brackets of a text, and the list of the texts between them; None without these."""
    called, _, rest = text.partition("(")
    if not rest.endswith(")"):
        return None
    texts = split_blanks(rest[:-1])
    return None if texts is None else (called, texts)


def split_blanks(text):
    """The list of the texts between the outer blanks; None if brackets do not pair."""
    texts = []
    depth = 0
    begin = 0
    for at, sign in enumerate(text):
        if sign == "(":
            depth += 1
        elif sign == ")":
            depth -= 1
        elif sign == " " and depth == 0:
            texts.append(text[begin:at])
            begin = at + 1
        if depth < 0:
            return None
    texts.append(text[begin:])
    return texts if depth == 0 else None


def depth_of(text):
    """The greatest number of brackets in each other."""
    depth = 0
    deepest = 0
    for sign in text:
        if sign == "(":
            depth += 1
            deepest = max(deepest, depth)
        elif sign == ")":
            depth -= 1
    return deepest


def _top_of(text):
    """The name at the top of a picture, None for a hole, and the list of the texts of its children."""
    if text == HOLE:
        return None, []
    top = split_text(text)
    if top is None or not is_name(top[0]) or not 2 <= len(top[1]) <= MAX_CHILDREN:
        raise InvalidPicture("no text of a picture")
    return top


def _is_formed(scheme, picture):
    """Whether the name at the top is a form with as many children."""
    return picture.called in scheme and len(scheme[picture.called]) == len(picture.parts)


def _is_sound_part(scheme, part, sort):
    """Whether a child of a picture is a hole, or sound and of the sort that is told for it."""
    if part.called is None:
        return True
    return is_sound_picture(scheme, part) and scheme[part.called].sort_name == sort


def _is_spot(value):
    return isinstance(value, tuple) and len(value) == 2 and is_name(value[0]) and is_integer(value[1])


def _spots_below(scheme, picture, level):
    """The list of the spots of the holes of a sound picture whose top has this level."""
    spots = []
    for part, (sort, step) in zip(picture.parts, scheme[picture.called].children):
        if part.called is None:
            spots.append((sort, level - step))
        else:
            spots.extend(_spots_below(scheme, part, level - step))
    return spots


def _spot_held(scheme, picture, spots):
    """The spot of the top of a picture over as many spots as it has holes; None if it does not hold."""
    if picture.called is None:
        return spots[0]
    if not _is_formed(scheme, picture):
        return None
    form = scheme[picture.called]
    levels = []
    begin = 0
    for part, (sort, step) in zip(picture.parts, form.children):
        spot = _spot_held(scheme, part, spots[begin:begin + part.holes])
        if spot is None or spot[0] != sort:
            return None
        levels.append(spot[1] + step)
        begin += part.holes
    return (form.sort_name, levels[0]) if min(levels) == max(levels) else None
