"""Schemes whose sorts exist at each rank, at some ranks again and again, or only at some."""

from mendbooks.base.forms import Scheme

EACH = Scheme.from_lines("bare t", "tops t", "form even t t1 t1", "form left t t1 t2", "form right t t2 t1")
THIRDS = Scheme.from_lines("bare a", "tops a", "form x b a3 a3", "form y a b3 b3")
SOME = Scheme.from_lines("bare a", "tops a b", "form x b a1 a1", "form y c b2 a3", "form z c b3 b1")
# Nodes with the step 0: trees of each height at the rank 0.
LEVEL = Scheme.from_lines("bare t", "tops t", "form flat t t0 t0", "form tall t t1 t1")
# The sort c exists, but no right tree has it; d stands below nothing but c.
HIDDEN = Scheme.from_lines("bare a", "tops a", "form x a a1 a1", "form y c a1 d1", "form z d a1 a1")
# The least trees of c are the cheapest ones, but it takes a long climb from there to a top sort.
CLIMB = Scheme.from_lines("bare a", "tops a", "form p b a1 a1", "form q c b2 b2", "form r d c3 c3", "form s a d3 d3")


def rings(first):
    """Two rings of sorts, eleven and nine ranks long, that begin above the empty tree alone: the period is 99."""
    return Scheme.from_lines(
        "bare z", "tops z", f"form sa a z{first} z{first}", "form ab b a3 a3", "form bc c b3 b3", "form cd d c3 c3",
        "form da a d2 d2", "form se e z1 z1", "form ef f e3 e3", "form fg g f3 f3", "form ge e g3 g3")
