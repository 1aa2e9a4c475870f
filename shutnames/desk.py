"""A desk at which all is done by lines of words, and undone."""

from shutnames.errors import NoUndo
from shutnames.words import check_blanks, number_of, word_and_rest
from shutnames.work import Work, done_line


class Desk:
    """A work, what it was ahead of each line that changed something, and a log of all lines."""

    def __init__(self):
        self.work = Work()
        self.past = []
        self.log = []

    def tell(self, line):
        """Answer a line."""
        if word_and_rest(line)[0] == "log":
            return self.last_entries(line)
        self.log.append(("begun", line))
        end = "refused"
        try:
            answer = self.answer_to(line)
            end = "done"
        finally:
            self.log.append((end, line))
        return answer

    def answer_to(self, line):
        """Do a line that isn't one about the log."""
        if line == "undo":
            if not self.past:
                raise NoUndo("there is nothing to undo")
            self.work = self.past.pop()
            return "undone"
        # Done with a copy, so that what is refused in its middle changes nothing.
        work = self.work.copied()
        answer, changes = done_line(work, line)
        if changes:
            self.past.append(self.work)
            self.work = work
        return answer

    def last_entries(self, line):
        """Answer a line about the log."""
        check_blanks(line)
        many = min(number_of(word_and_rest(line)[1]), len(self.log))
        last = self.log[len(self.log) - many:]
        return " | ".join([f"{word} {told}" for word, told in last]) or "none"

    def entries(self):
        """The entries of the log, each a word and a line."""
        return list(self.log)
