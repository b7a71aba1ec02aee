"""Reading programs within a longer text."""

from alldeeds.errors import NotAText, TooDeep
from alldeeds.formparts import DEEPEST, DIGITS, LETTERS
from alldeeds.formreading import take_kind
from alldeeds.terms import TEXT_WORDS


class ReadProgram:
    """The inputs and the term of a program that is read, and whether one of its kinds is too deep."""

    def __init__(self, inputs, term, is_too_deep):
        self.inputs = inputs
        self.term = term
        self.is_too_deep = is_too_deep

    def told(self):
        """The pair of the inputs and the term."""
        if self.is_too_deep:
            raise TooDeep(DEEPEST)
        return (self.inputs, self.term)


class TermReader:
    """A Reader that reads terms, and whether a kind was too deep."""

    def __init__(self, reader):
        self.reader = reader
        self.is_too_deep = False

    def next_kind(self):
        """The kind that stands next, with the spaces around it; None if it is too deep."""
        told = take_kind(self.reader).form
        if told is None:
            self.is_too_deep = True
        return told

    def pass_sign(self, sign):
        """Reads the sign, with the spaces around it."""
        self.reader.skip_spaces()
        self.reader.take(sign)
        self.reader.skip_spaces()

    def next_name(self):
        """The name that stands next, with the spaces around it."""
        self.reader.skip_spaces()
        told = self.reader.take_name()
        # a word is no name, but it may be the beginning of one
        if told in TEXT_WORDS or self.reader.sees(LETTERS) or self.reader.sees(DIGITS):
            raise NotAText(self.reader.at)
        self.reader.skip_spaces()
        return told

    def pass_word(self, word):
        """Reads the word, which ends a term."""
        self.reader.take_word((word,))

    def next_term(self, after):
        """The term that stands next, with the spaces around it; the word may come after it."""
        self.reader.skip_spaces()
        word = self.reader.next_run()
        if word in OPENERS:
            self.pass_word(word)
            opener = OPENERS[word]
            return opener(self, after)
        told = self.next_piece()
        while self.sees_piece(after):
            told = ("apply", told, self.next_piece())
        return told

    def sees_piece(self, after):
        """Whether a piece stands next, and not the word that comes after the term."""
        if self.reader.sees(LETTERS):
            return self.reader.next_run() != after
        return self.reader.sees("([")

    def next_piece(self):
        """The piece that stands next, with the spaces around it."""
        self.reader.skip_spaces()
        if self.reader.sees("("):
            return self.bracketed()
        if self.reader.sees("["):
            return self.two_ways()
        word = self.reader.next_run()
        if word in ("left", "right"):
            return self.at_side(word)
        if word in ("first", "second"):
            self.pass_word(word)
            return (word, self.next_piece())
        return ("name", self.next_name())

    def bracketed(self):
        """The pair, or the term in brackets, that stands next."""
        self.pass_sign("(")
        told = self.next_term("")
        if self.reader.sees(","):
            self.pass_sign(",")
            told = ("pair", told, self.next_term(""))
        self.pass_sign(")")
        return told

    def two_ways(self):
        """The ways that stand next."""
        self.pass_sign("[")
        one = self.next_term("")
        self.pass_sign(",")
        other = self.next_term("")
        self.pass_sign("]")
        return ("ways", one, other)

    def at_side(self, word):
        """The left or right of a term that stands next."""
        self.pass_word(word)
        self.pass_sign("(")
        told = self.next_term("")
        self.pass_sign(":")
        kind = self.next_kind()
        self.pass_sign(")")
        return (word, told, kind)


def take_let(reader, after):
    """The let of which the first word is read."""
    x = reader.next_name()
    reader.pass_sign(",")
    y = reader.next_name()
    reader.pass_sign("=")
    one = reader.next_term("in")
    reader.pass_word("in")
    return ("let", x, y, one, reader.next_term(after))


def take_fn(reader, after):
    """The fn of which the first word is read."""
    x = reader.next_name()
    reader.pass_sign(":")
    kind = reader.next_kind()
    reader.pass_sign(".")
    return ("fn", x, kind, reader.next_term(after))


def take_case(reader, after):
    """The case of which the first word is read."""
    one = reader.next_term("of")
    reader.pass_word("of")
    x = reader.next_name()
    reader.pass_sign(".")
    left = reader.next_term("or")
    reader.pass_word("or")
    y = reader.next_name()
    reader.pass_sign(".")
    return ("case", one, x, left, y, reader.next_term(after))


OPENERS = {"let": take_let, "fn": take_fn, "case": take_case}


def take_input(reader, names):
    """The input that stands next, whose name is none of these."""
    start = reader.reader.at
    name = reader.next_name()
    if name in names:
        raise NotAText(start + len(name))
    reader.pass_sign(":")
    return (name, reader.next_kind())


def take_program(plain_reader):
    """The program that stands next, with the spaces around it, as a ReadProgram."""
    reader = TermReader(plain_reader)
    inputs = []
    plain_reader.skip_spaces()
    if not plain_reader.sees(";"):
        inputs.append(take_input(reader, []))
        while plain_reader.sees(","):
            reader.pass_sign(",")
            inputs.append(take_input(reader, [name for name, _ in inputs]))
    reader.pass_sign(";")
    term = reader.next_term("")
    return ReadProgram(tuple(inputs), term, reader.is_too_deep)
