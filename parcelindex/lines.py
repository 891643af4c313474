"""Texts that are read line by line, and the number of the first wrong line."""

from parcelindex.checks import is_text_sign


class WrongLine(ValueError):
    """The text cannot begin to be of its form with this line, or it ends in front of it."""

    def __init__(self, line):
        self.line = line


class Lines:
    """The lines of a text; those in front of the next one were read and are right."""

    def __init__(self, text):
        rows = text.split("\n")
        # The last row is what stands behind the last newline: a line that is cut off, or nothing.
        self._cut_off = rows[-1] != ""
        self._rows = rows if self._cut_off else rows[:-1]
        self._done = 0

    def refuse(self):
        """Tells that the next line is wrong or missing."""
        raise WrongLine(self._done + 1)

    def is_next(self, line):
        """Whether the next line is there, and is this one."""
        return self._done < len(self._rows) and self._rows[self._done] == line

    def begins(self, word):
        """Whether the next line is there and begins with this word and a space."""
        return self._done < len(self._rows) and self._rows[self._done].startswith(f"{word} ")

    def behind(self, word):
        """What stands behind this word and a space in the next line, which must begin so."""
        if not self.begins(word):
            self.refuse()
        return self._rows[self._done][len(word) + 1:]

    def accept(self, good):
        """Goes on to the line behind the next one, which must be good."""
        if not good:
            self.refuse()
        self._done += 1

    def accept_body(self, length):
        """Goes on behind a line and the text of this length behind it, which is returned.

        The line itself is wrong if there is no newline behind the text; otherwise a line of the text is wrong that has
        a character that no text has.
        """
        # Behind a row that is cut off there is no newline.
        closed = len(self._rows) - 1 if self._cut_off else len(self._rows)
        start = self._done + 1
        end = start + 1
        while end <= closed and len("\n".join(self._rows[start:end])) < length:
            end += 1
        body = "\n".join(self._rows[start:end])
        self.accept(end <= closed and len(body) == length)
        for row in self._rows[start:end]:
            self.accept(all([is_text_sign(sign) for sign in row]))
        return body

    def finish(self):
        """The text must end here, with a newline."""
        if self._cut_off or self._done < len(self._rows):
            self.refuse()
