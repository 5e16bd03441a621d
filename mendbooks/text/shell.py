"""A shell: a bench that is worked on by lines of text."""

from mendbooks.errors import InvalidBook, InvalidDrawing, InvalidNumber, InvalidOperation, InvalidShape, NoMend
from mendbooks.errors import NothingToUndo, Refused, TooMany, UnknownName
from mendbooks.text.commands import answer_to, pledge_line
from mendbooks.text.marks import place_line
from mendbooks.text.texts import read_book
from mendbooks.use.bench import Bench


class Shell:
    """A bench that answers to commands; an error is answered by a word."""

    def __init__(self, text):
        self._bench = Bench(read_book(text))
        self._many = 0

    def bench(self):
        """A twin of the bench."""
        return self._bench.twin()

    def run(self, line):
        """The answer to a command."""
        try:
            answer = answer_to(self._bench, line)
        except InvalidDrawing:
            return "drawing"
        except InvalidBook:
            return "book"
        except InvalidShape:
            return "shape"
        except InvalidOperation:
            return "operation"
        except UnknownName:
            return "unknown"
        except InvalidNumber:
            return "number"
        except TooMany as error:
            return f"many {error.limit}"
        except NothingToUndo:
            return "undo"
        except Refused as error:
            return f"refused {pledge_line(error.pledge)}"
        except NoMend as error:
            return f"fails {place_line(error.where)}"
        if answer is None:
            return "what"
        self._many = self._many + 1
        return answer

    def __call__(self, line):
        return self.run(line)

    def __len__(self):
        return len(range(self._many))
