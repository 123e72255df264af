"""A console that keeps worlds and demands by names. [58] [59]"""

from alikeruns.commands import answer_to, is_making, made_by, read_command
from alikeruns.demands import Demand
from alikeruns.errors import BadLine, BadSyntax, BadValue, TooMany
from alikeruns.worlds import World


class Console:
    """Keeps worlds and demands by names, and the lines that it has answered."""

    def __init__(self):
        self._named = {}
        self._lines = []

    def run(self, line):
        """The answer to a line; BadSyntax(0) if it has none of the forms."""
        command = read_command(line)
        if command is None:
            raise BadSyntax(0)
        form, values = command
        answer = self._answer(form, values)
        self._lines.append(line)
        return answer

    def log(self):
        """The lines that run has answered, each followed by a line feed."""
        return "".join([f"{line}\n" for line in self._lines])

    @staticmethod
    def replayed(log):
        """A console that has run the lines of a log."""
        if not isinstance(log, str):
            raise BadValue(1)
        lines = log.split("\n")
        rest = lines.pop()
        for at, line in enumerate(lines):
            if read_command(line) is None:
                raise BadLine(at)
        if rest != "":
            raise BadLine(len(lines))
        console = Console()
        for line in lines:
            console.run(line)
        return console

    def _answer(self, form, values):
        """The answer to a line of this form, with these values behind its first word."""
        told = []
        for kind, value in zip(form[1:], values):
            kept = self._kept(kind, value)
            if kept is None:
                return "error Unknown"
            told.append(kept)
        try:
            return self._done(form[0], told)
        except BadValue:
            return "error BadValue"
        except TooMany:
            return "error TooMany"

    def _done(self, word, told):
        if not is_making(word):
            return answer_to(word, told)
        self._named[told[0]] = made_by(word, told)
        return "ok"

    def _kept(self, kind, value):
        """The value itself; for the name of a world or a demand what is kept under it, None if it is not such a one."""
        if kind == "<world>":
            found = self._named.get(value)
            return found if isinstance(found, World) else None
        if kind == "<demand>":
            found = self._named.get(value)
            return found if isinstance(found, Demand) else None
        if kind == "<world or demand>":
            return self._named.get(value)
        return value
