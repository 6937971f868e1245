"""A desk: sessions by names, and commands, which are texts, about them."""

from wishedwires.checks import is_digits, is_name, is_word
from wishedwires.errors import InvalidCommand, InvalidNumber, LimitExceeded, UnknownName
from wishedwires.editing import Session
from wishedwires.exchanges import Exchanges
from wishedwires.least import least_differences
from wishedwires.matching import alike
from wishedwires.parts import Part
from wishedwires.ratios import Ratio
from wishedwires.reading import format_circuit, parse
from wishedwires.within import spots

MOST_NAMES = 8
MOST_DIGITS = 3
# What stands behind the first word of each command; a star stands for one word or more of the same sort.
FORMS = {
    "show": ("word",),
    "names": (),
    "add": ("word", "name", "word", "value", "name", "*"),
    "remove": ("word", "name"),
    "move": ("word", "name", "word", "name"),
    "value": ("word", "name", "value"),
    "port": ("word", "word", "name"),
    "drop": ("word", "word"),
    "undo": ("word", "number"),
    "items": ("word",),
    "gone": ("word",),
    "alike": ("word", "word"),
    "count": ("word",),
    "price": ("word", "word"),
    "spots": ("word", "word"),
}
# The commands that are about two sessions.
OF_TWO = ("alike", "price", "spots")


class Desk:
    """At most eight sessions by their names."""

    def __init__(self):
        self._sessions = {}

    def say(self, line):
        """Does a command; the answer."""
        if not isinstance(line, str) or "\n" in line:
            raise InvalidCommand(line)
        words = line.split(" ")
        if words[0] == "read":
            return self._read(line)
        if not _is_command(words):
            raise InvalidCommand(line)
        word, *rest = words
        if word == "names":
            return _joined(sorted(self._sessions, key=str))
        many = 2 if word in OF_TWO else 1
        for name in rest[:many]:
            if name not in self._sessions:
                raise UnknownName(name)
        if word in OF_TWO:
            return self._compare(word, rest[0], rest[1])
        session = self._sessions[rest[0]]
        return _told(session, word) if len(rest) == 1 else _edited(session, word, rest[1:])

    def __len__(self):
        return len(self._sessions)

    def _read(self, line):
        """Begins a session anew with the circuit of a text."""
        _, _, rest = line.partition(" ")
        name, _, text = rest.partition(" ")
        if not is_word(name) or not text:
            raise InvalidCommand(line)
        circuit = parse("" if text == "-" else text.replace("; ", "\n"))
        if name not in self._sessions and len(self._sessions) == MOST_NAMES:
            raise LimitExceeded(MOST_NAMES + 1)
        self._sessions[name] = Session(circuit)
        return "ok"

    def _compare(self, word, name, other):
        """The answer to a command about two sessions."""
        one, two = self._sessions[name], self._sessions[other]
        if word == "alike":
            return "yes" if alike(one.form(), two.form()) else "no"
        if word == "price":
            return str(least_differences(one.form(), two.form()).price)
        return str(len(spots(one.circuit(), two.circuit())))


def _is_command(words):
    """Whether words are a command of one of the forms, by the words alone."""
    if words[0] not in FORMS:
        return False
    wanted = list(FORMS[words[0]])
    given = words[1:]
    if wanted[-1:] == ["*"]:
        more = len(given) - len(wanted) + 1
        wanted = wanted[:-1] + [wanted[-2]] * more
    if len(wanted) != len(given):
        return False
    return all([_is_of_sort(word, sort) for word, sort in zip(given, wanted)])


def _is_of_sort(word, sort):
    """Whether a word is a name of one word, a name, the text of a value, or a number of changes."""
    if sort == "word":
        return is_word(word)
    if sort == "name":
        return is_name(word)
    if sort == "value":
        return _is_value(word)
    return is_digits(word) and len(word) <= MOST_DIGITS and str(int(word)) == word


def _is_value(word):
    """Whether a word is the text of a ratio above 0."""
    try:
        return Ratio.parse(word) > 0
    except InvalidNumber:
        return False


def _joined(words):
    return " ".join(words) if words else "-"


def _told(session, word):
    """The answer to a command that asks about one session."""
    if word == "show":
        return format_circuit(session.circuit()).replace("\n", "; ") or "-"
    form = session.form()
    if word == "items":
        return _joined(["+".join(item.names) for item in form.entries])
    if word == "gone":
        return _joined(list(form.dropped))
    return str(Exchanges(form).many)


def _edited(session, word, rest):
    """Does a command that changes a session."""
    if word == "undo":
        session.undo(number=int(rest[0]))
    elif word == "add":
        session.do(("add", rest[0], _new_part(session, rest)))
    elif word == "value":
        session.do(("value", rest[0], Ratio.parse(rest[1])))
    else:
        session.do((word, *rest))
    return "ok"


def _new_part(session, words):
    """The part that the words of a command tell, of a kind that a part of the circuit has."""
    circuit = session.circuit()
    kinds = {part.kind.name: part.kind for _, part in circuit.parts()}
    _, name, value, *nets = words
    if name not in kinds:
        raise UnknownName(name)
    return Part(kinds[name], Ratio.parse(value), *nets)
