"""Sessions at a desk: what is said and answered, its text, and whether it goes so again."""

from holestore.desks import Desk
from holestore.errors import BadLine, BadString
from holestore.words import check_string
from holestore.yardtexts import read_standing, read_yard, write_standing, write_yard

YARD = "| "
STANDING = "= "
LINE = "> "
ANSWER = "< "
PROGRAM = "program "


class Session:
    """A desk with a yard at work, and the log of what is said there."""

    def __init__(self, text, line):
        self._desk = Desk()
        self._desk.take_yard(text, line)
        self._yard = read_yard(text)
        self._first = read_standing(self._yard, line)
        self._log = []

    @property
    def log(self):
        """The tuple of the pairs (line, answer)."""
        return tuple(self._log)

    def say(self, line):
        """Return the answer to a line, and keep both; a line whose answer is an error is not kept."""
        if not isinstance(line, str) or "\n" in line:
            raise BadString("a line is a string without a line's end")
        if line.startswith(PROGRAM):
            answer = self._desk.take_program(line.removeprefix(PROGRAM).replace(":", "\n"))
        else:
            answer = self._desk.say(line)
        self._log.append((line, answer))
        return answer

    def text(self):
        """Return the text of the session."""
        lines = [YARD + line for line in write_yard(self._yard).split("\n")]
        lines.append(STANDING + write_standing(self._yard, self._first))
        for line, answer in self._log:
            lines.append(LINE + line)
            lines.append(ANSWER + answer)
        return "\n".join(lines)


def read_session(text):
    """Return (yard, standing, pairs of lines and answers) of a session's text."""
    check_string(text)
    lines = text.split("\n")
    many = count_yard_lines(lines)
    check_beginnings(lines, many)
    yard = read_yard("\n".join([behind_beginning(line) for line in lines[:many]]))
    standing = read_standing(yard, behind_beginning(lines[many]))
    said = [behind_beginning(line) for line in lines[many + 1::2]]
    answers = [behind_beginning(line) for line in lines[many + 2::2]]
    return (yard, standing, tuple(zip(said, answers)))


def count_yard_lines(lines):
    """Return how many lines from the first one on are a yard's."""
    many = 0
    while many < len(lines) and lines[many].startswith(YARD):
        many += 1
    return many


def check_beginnings(lines, many):
    """Raise BadLine for the first line behind so many of the yard that begins otherwise, or is lacking."""
    wanted = STANDING
    for at, line in enumerate(lines):
        if at >= many:
            if not line.startswith(wanted):
                raise BadLine(at + 1, 1)
            wanted = ANSWER if wanted == LINE else LINE
    # A line is lacking unless the next one may be a new line that is said.
    if wanted != LINE:
        raise BadLine(len(lines) + 1, 1)


def behind_beginning(line):
    """Return a line without the sign and the space that it begins with."""
    return line[2:]


def first_unlike(text):
    """Return the place of the first pair whose answer is another one when all is said again, None without one."""
    yard, standing, pairs = read_session(text)
    session = Session(write_yard(yard), write_standing(yard, standing))
    answers = [session.say(line) for line, _ in pairs]
    for at, answer in enumerate(answers):
        if answer != pairs[at][1]:
            return at
    return None
