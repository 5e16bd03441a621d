"""Forms of nodes, and schemes: the forms and sorts of which search trees are built."""

from mendbooks.base.words import is_count, is_index, is_name, is_names, words_of
from mendbooks.errors import InvalidForm, InvalidName, InvalidNumber, InvalidOperation, InvalidScheme
from mendbooks.errors import ParseError, UnknownName

MAX_CHILDREN = 4
MAX_STEP = 3
MAX_SORTS = 8
MAX_FORMS = 24


class Form:
    """What the nodes of a name have in common: their sort, and for each child a sort and a step."""

    def __init__(self, called, sort, children):
        if not is_name(called):
            raise InvalidName("a form is called by a name")
        if not is_name(sort):
            raise InvalidName("the sort of a form is a name")
        if not _is_children(children):
            raise InvalidForm("the children of a form are two to four pairs of a sort and a step")
        self._called = called
        self._sort_name = sort
        self._children = children

    @classmethod
    def from_line(cls, line):
        """The form that a line like `form left t t1 t2` tells."""
        words = words_of(line)
        if not _is_form_line(words):
            raise ParseError(None)
        return cls(words[1], words[2], tuple([(word[:-1], int(word[-1])) for word in words[3:]]))

    @property
    def called(self):
        """Its name."""
        return self._called

    @property
    def sort_name(self):
        """The name of its sort."""
        return self._sort_name

    @property
    def children(self):
        """Its pairs of a sort and a step, from left to right."""
        return self._children

    def __len__(self):
        return len(self._children)

    def __iter__(self):
        return iter(self._children)

    def __getitem__(self, index):
        if not is_index(index, len(self._children)):
            raise InvalidNumber(index)
        return self._children[index]

    def __eq__(self, other):
        return (isinstance(other, Form) and self.called == other.called
                and self.sort_name == other.sort_name and self.children == other.children)

    def __str__(self):
        children = [f"{sort}{step}" for sort, step in self._children]
        return " ".join(["form", self._called, self._sort_name, *children])


class Scheme:
    """Which trees there are: the bare sort, the top sorts, and the forms of the nodes."""

    def __init__(self, bare, tops, forms):
        if not _is_scheme(bare, tops, forms):
            raise InvalidScheme("these sorts and forms make no scheme")
        by_name = {form.called: form for form in forms}
        self._bare = bare
        self._tops = tops
        self._by_name = by_name
        self._names = tuple(sorted(by_name))
        self._forms = tuple([by_name[name] for name in self._names])
        self._sorts = _sorts_of(tops, forms)

    @classmethod
    def from_lines(cls, *lines):
        """The scheme that has these lines, in any order."""
        bare = None
        tops = None
        forms = {}
        for index, line in enumerate(lines):
            words = words_of(line)
            if bare is None and _is_bare_line(words):
                bare = words[1]
            elif tops is None and _is_tops_line(words):
                tops = words[1:]
            elif _is_form_line(words) and words[1] not in forms:
                forms[words[1]] = Form.from_line(line)
            else:
                raise ParseError(index)
        return cls(bare, tops, tuple(forms.values()))

    @property
    def bare(self):
        """The sort of the empty tree."""
        return self._bare

    @property
    def tops(self):
        """The sorts that whole trees have, ascending."""
        return self._tops

    @property
    def forms(self):
        """The forms, ascending by name."""
        return self._forms

    @property
    def names(self):
        """The names of the forms, ascending."""
        return self._names

    @property
    def sorts(self):
        """All sorts, ascending."""
        return self._sorts

    @property
    def lines(self):
        """The lines that tell this scheme."""
        forms = [str(form) for form in self._forms]
        return (f"bare {self._bare}", " ".join(["tops", *self._tops]), *forms)

    def __getitem__(self, name):
        # A list may be looked up, too, and a dict would fail with it.
        if name not in self._names:
            raise UnknownName(name)
        return self._by_name[name]

    def __iter__(self):
        raise TypeError("a scheme is not iterated over")

    def __contains__(self, value):
        if isinstance(value, Form):
            return value in self._forms
        return value in self._names

    def __len__(self):
        return len(self._names)

    def __eq__(self, other):
        return (isinstance(other, Scheme) and self.bare == other.bare
                and self.tops == other.tops and self.forms == other.forms)

    def __str__(self):
        return f"scheme of {len(self._names)} forms, {len(self._sorts)} sorts"

    def of_sort(self, sort):
        """The names of the forms of a sort, ascending."""
        if sort not in self._sorts:
            raise UnknownName(sort)
        return tuple([form.called for form in self._forms if form.sort_name == sort])

    def parents(self, sort, step):
        """The pairs of the name of a form and the index of a child with this sort and step."""
        if sort not in self._sorts:
            raise UnknownName(sort)
        if not _is_step(step):
            raise InvalidNumber(step)
        return tuple([(form.called, index) for form in self._forms
                      for index, child in enumerate(form.children) if child == (sort, step)])

    def with_form(self, form):
        """The scheme with this form, which takes the place of the one with its name."""
        if not isinstance(form, Form):
            raise InvalidForm("a scheme takes forms only")
        others = [other for other in self._forms if other.called != form.called]
        return Scheme(self._bare, self._tops, (*others, form))

    def without(self, name):
        """The scheme without the form of this name."""
        gone = self[name]
        others = [form for form in self._forms if form.called != gone.called]
        return Scheme(self._bare, self._tops, tuple(others))


def mirrored_scheme(scheme):
    """The scheme in which the children of each form stand in the opposite order."""
    if not isinstance(scheme, Scheme):
        raise InvalidScheme("only a scheme is mirrored")
    forms = [Form(form.called, form.sort_name, form.children[::-1]) for form in scheme.forms]
    return Scheme(scheme.bare, scheme.tops, tuple(forms))


def renamed_scheme(scheme, sorts, forms):
    """The scheme in which each sort and each form has the name that the two dicts tell."""
    if not isinstance(scheme, Scheme):
        raise InvalidScheme("only a scheme is renamed")
    if not _is_renaming(sorts, scheme.sorts):
        raise InvalidOperation("each sort needs a name of its own")
    if not _is_renaming(forms, scheme.names):
        raise InvalidOperation("each form needs a name of its own")
    renamed = [_renamed_form(form, sorts, forms) for form in scheme.forms]
    tops = sorted([sorts[sort] for sort in scheme.tops])
    return Scheme(sorts[scheme.bare], tuple(tops), tuple(renamed))


def _renamed_form(form, sorts, forms):
    children = [(sorts[sort], step) for sort, step in form.children]
    return Form(forms[form.called], sorts[form.sort_name], tuple(children))


def _is_renaming(value, words):
    if not isinstance(value, dict) or len(value) != len(words):
        return False
    if not all([word in value and is_name(value[word]) for word in words]):
        return False
    return len(set([value[word] for word in words])) == len(words)


def _is_step(value):
    return is_count(value) and value <= MAX_STEP


def _is_child(value):
    return isinstance(value, tuple) and len(value) == 2 and is_name(value[0]) and _is_step(value[1])


def _is_children(value):
    if not isinstance(value, tuple) or not 2 <= len(value) <= MAX_CHILDREN:
        return False
    return all([_is_child(child) for child in value])


def _is_scheme(bare, tops, forms):
    if not is_names(tops) or bare not in tops:
        return False
    if not isinstance(forms, tuple) or not all([isinstance(form, Form) for form in forms]):
        return False
    if not 1 <= len(forms) <= MAX_FORMS or len(_sorts_of(tops, forms)) > MAX_SORTS:
        return False
    names = len(set([form.called for form in forms]))
    kinds = len(set([(form.sort_name, form.children) for form in forms]))
    return names == kinds == len(forms)


def _sorts_of(tops, forms):
    told = list(tops)
    for form in forms:
        told.append(form.sort_name)
        told.extend([child[0] for child in form.children])
    return tuple(sorted(set(told)))


def _is_bare_line(words):
    return len(words) == 2 and words[0] == "bare" and is_name(words[1])


def _is_tops_line(words):
    return len(words) > 1 and words[0] == "tops" and is_names(words[1:])


def _is_form_line(words):
    if not 5 <= len(words) <= 3 + MAX_CHILDREN or words[0] != "form":
        return False
    return is_name(words[1]) and is_name(words[2]) and all([_is_child_word(word) for word in words[3:]])


def _is_child_word(word):
    return is_name(word[:-1]) and "0" <= word[-1] <= str(MAX_STEP)
