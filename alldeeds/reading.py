"""Reading a text from its beginning to the first sign that cannot stand there."""

from alldeeds.errors import NotAText
from alldeeds.formparts import DIGITS, LETTERS, LONGEST_NAME

SIDE_WORDS = ("left", "right")


class Reader:
    """A text, and how much of it is read.

    Nothing is read that no text of the wanted sort begins with, so at each
    failure the length that is read is the length of the longest beginning.
    """

    def __init__(self, text):
        self.text = text
        self.at = 0

    def sees(self, signs):
        """Whether one of the signs stands next."""
        return self.at < len(self.text) and self.text[self.at] in signs

    def is_done(self):
        """Whether the whole text is read."""
        return self.at == len(self.text)

    def finish(self):
        """Raises NotAText if something is left."""
        if not self.is_done():
            raise NotAText(self.at)

    def take(self, signs):
        """The next sign, which must be one of these."""
        if not self.sees(signs):
            raise NotAText(self.at)
        self.at += 1
        return self.text[self.at - 1]

    def skip_spaces(self):
        """Reads spaces, if there are any."""
        while self.sees(" "):
            self.at += 1

    def take_spaces(self):
        """Reads spaces, at least one."""
        self.take(" ")
        self.skip_spaces()

    def finds_more(self):
        """Whether spaces and then a number stand next; the spaces are read in any case."""
        if not self.sees(" "):
            return False
        self.skip_spaces()
        return self.sees(DIGITS)

    def take_side(self):
        """The side that stands next as a word."""
        return SIDE_WORDS.index(self.take_word(SIDE_WORDS))

    def take_name(self):
        """The name that stands next."""
        start = self.at
        self.take(LETTERS)
        while self.at - start < LONGEST_NAME and (self.sees(LETTERS) or self.sees(DIGITS)):
            self.at += 1
        return self.text[start:self.at]

    def next_run(self):
        """The letters and digits that stand next, behind a letter; they are not read."""
        end = self.at
        while end < len(self.text) and (self.text[end] in LETTERS or self.text[end] in DIGITS and end > self.at):
            end += 1
        return self.text[self.at:end]

    def take_digits(self):
        """The digits that stand next, perhaps none."""
        start = self.at
        while self.sees(DIGITS):
            self.at += 1
        return self.text[start:self.at]

    def take_word(self, words):
        """The one of the words that stands next; none of them begins another one."""
        for word in words:
            if self.text.startswith(word, self.at):
                self.at += len(word)
                return word
        self.at += max([self.shared_length(word) for word in words])
        raise NotAText(self.at)

    def shared_length(self, word):
        """How many signs of the word stand next."""
        length = 0
        while length < len(word) and self.text.startswith(word[:length + 1], self.at):
            length += 1
        return length

    def take_number(self, most):
        """The number that stands next, written without a 0 ahead, no greater than this."""
        start = self.at
        number = int(self.take(DIGITS))
        while number > 0 and self.sees(DIGITS) and int(self.text[start:self.at + 1]) <= most:
            self.at += 1
            number = int(self.text[start:self.at])
        return number
