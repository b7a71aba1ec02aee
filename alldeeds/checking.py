"""Programs: right terms, in which each name is used exactly once."""

from alldeeds.errors import BadValue
from alldeeds.looking import looks_at
from alldeeds.terms import check_program
from alldeeds.termwriting import written_program
from alldeeds.values import as_tuple, is_integer, is_list


class Program:
    """A program: its inputs, its term, and the kind of this."""

    def __init__(self, inputs, term):
        check_program(inputs, term)
        self.inputs = tuple(inputs)
        self.term = term
        self.looks = looks_at(inputs, term)
        self.kind = self.kind_at(())

    def __eq__(self, other):
        return isinstance(other, Program) and self.inputs == other.inputs and self.term == other.term

    def text(self):
        """Its text."""
        return written_program(self.inputs, self.term)

    def look_at(self, path):
        """The kind of the term to which the path leads, and the names that it uses."""
        if not is_list(path) or not all([is_integer(number) for number in path]):
            raise BadValue(path)
        look = self.looks.get(as_tuple(path))
        if look is None:
            raise BadValue(path)
        return look

    def kind_at(self, path):
        """The kind of the term to which the path leads."""
        return self.look_at(path)[0]

    def names_at(self, path):
        """The ascending tuple of the names in sight that the term to which the path leads uses."""
        return self.look_at(path)[1]
