"""Point 40 and the interface section desk."""

from wishedwires.desk import Desk
from wishedwires.errors import (InvalidCircuit, InvalidCommand, InvalidForm, InvalidKind, InvalidPins, InvalidText,
                                LimitExceeded, NameInUse, NothingToUndo, UnknownName)
from tests.helper import ODD, Case

KINDS = "path res : row sum side inverse; pins amp p q o : p q; pins tap m"
PARTS = "part r1 res 2 a x; part r2 res 3 x b; part t tap 1 a; part w res 1 b y"
TEXT = f"{KINDS}; port p a; port q b; {PARTS}"
SHOWN = f"path res : row sum side inverse; pins tap m; port p a; port q b; {PARTS}"


class DeskTest(Case):
    def setUp(self):
        self.desk = Desk()
        self.assertEqual([len(self.desk), self.desk.say(f"read one {TEXT}"), len(self.desk)], [0, "ok", 1])

    def says(self, *rows):
        """The answers, told as pairs of a line and an answer."""
        for line, answer in rows:
            self.assertEqual([line, self.desk.say(line)], [line, answer])

    def refused(self, error, given, line):
        """A command fails, and nothing has changed."""
        names = self.desk.say("names")
        kept = [] if names == "-" else names.split(" ")
        before = [self.desk.say(f"show {name}") for name in kept]
        self.fails(error, given, self.desk.say, line)
        self.assertEqual([self.desk.say("names"), [self.desk.say(f"show {name}") for name in kept]], [names, before])

    def test_reading_and_showing(self):
        self.says(("show one", SHOWN), ("read two -", "ok"), ("show two", "-"), ("names", "one two"),
                  ("read a1 port p n0", "ok"), ("show a1", "port p n0"), ("names", "a1 one two"), ("read one port q z", "ok"),
                  ("show one", "port q z"), ("names", "a1 one two"))
        self.assertEqual([len(self.desk), Desk().say("names"), len(Desk())], [3, "-", 0])

    def test_names_are_sorted(self):
        desk = Desk()
        for name in ("b", "a2", "c", "a10"):
            desk.say(f"read {name} -")
        self.assertEqual(desk.say("names"), "a10 a2 b c")

    def test_lines_that_are_no_texts(self):
        for text, index in (("--", 0), ("- ", 0), (" -", 0), (" ", 0), ("x", 0), (" port p a", 0), ("port p a ", 0),
                            ("port p a;port q b", 0), ("port p a; ", 1), ("port p a; port p b", 1), ("port p  a", 0),
                            ("port p a;  port q b", 1), ("port p a; port q b; part t tap 1 a", 2), ("pins tap m; pins tap m", 1),
                            (f"{TEXT}; part t tap 1 a", TEXT.count("; ") + 1)):
            for name in ("one", "new"):
                self.refused(InvalidText, index, f"read {name} {text}")

    def test_edits(self):
        self.says(("add one r3 res 1/2 a b", "ok"), ("items one", "t r1+r2+r3" if self.first_is("t") else "r1+r2+r3 t"),
                  ("remove one t", "ok"), ("items one", "r1+r2+r3"), ("move one r3 b c/d", "ok"), ("items one", "r1+r2"),
                  ("gone one", "r3 w"), ("value one r1 7/2", "ok"), ("port one s c/d", "ok"), ("port one p x", "ok"),
                  ("drop one q", "ok"),
                  ("show one", "path res : row sum side inverse; port p x; port s c/d; part r1 res 7/2 a x; part r2 res 3 x b; "
                               "part r3 res 1/2 a c/d; part w res 1 b y"),
                  ("undo one 3", "ok"), ("undo one 1", "ok"), ("undo one 3", "ok"), ("show one", SHOWN))
        self.refused(NothingToUndo, 1, "undo one 1")
        self.refused(NothingToUndo, 0, "undo one 0")
        self.refused(NothingToUndo, 999, "undo one 999")

    def first_is(self, name):
        return self.desk.say("items one").startswith(name)

    def test_names_of_two_words(self):
        self.says(("add one u1/r3 res 1 n/m n/k", "ok"), ("move one u1/r3 a n/a", "ok"), ("value one u1/r3 5", "ok"),
                  ("port one s n/a", "ok"), ("port one s2 n/k", "ok"), ("remove one u1/r3", "ok"))
        for line in ("show a/b", "add a/b t res 1 a", "add one t2 re/s 1 a b", "move one r1 a/b z", "port one p/q a",
                     "drop one p/q", "read a/b -", "undo a/b 1", "alike one a/b", "alike a/b one"):
            self.refused(InvalidCommand, line, line)

    def test_wrong_edits(self):
        for line, error, given in (
                ("add one t tap 1 b", NameInUse, "t"), ("add one n none 1 a", UnknownName, "none"),
                ("add one n amp 1 a b c", UnknownName, "amp"), ("add one t none 1 a b", UnknownName, "none"),
                ("add one n tap 1 a b", InvalidPins, ("a", "b")), ("add one n res 1 a", InvalidPins, ("a",)),
                ("remove one n", UnknownName, "n"), ("move one n m a", UnknownName, "n"), ("move one t a a", UnknownName, "a"),
                ("value one n 1", UnknownName, "n"), ("drop one r1", UnknownName, "r1")):
            self.refused(error, given, line)

    def test_questions(self):
        self.says(("items one", "r1+r2 t"), ("gone one", "w"), ("count one", "1"), ("alike one one", "yes"), ("price one one", "0"),
                  ("spots one one", "1"))
        self.says(("read two -", "ok"), ("items two", "-"), ("gone two", "-"), ("count two", "1"), ("alike one two", "no"))
        taps = "; ".join(f"part t{at} tap 1 n{at}" for at in range(5))
        self.says((f"read taps pins tap m; {taps}", "ok"), ("count taps", "120"), ("items taps", "t0 t1 t2 t3 t4"),
                  ("read tap pins tap m; port p a; part t tap 1 a", "ok"), ("spots tap taps", "5"), ("spots tap one", "1"))
        self.says(("read far path res : row sum side inverse; port q u; port p v; part r res 5 u v; part s res 2 u u", "ok"),
                  ("price one far", "1"), ("price far one", "1"), ("alike far one", "no"), ("gone far", "s"),
                  ("read near pins tap m; path res : row sum side inverse; port q u; port p v; part r res 4 v u; part s tap 1 v",
                   "ok"), ("price one near", "1"), ("value near r 5", "ok"), ("price one near", "0"), ("alike near one", "yes"))

    def test_the_first_one_is_the_pattern(self):
        self.says(("read two pins two m n : m n; port p a; port q b; part r two 1 a b", "ok"),
                  ("read many pins two m n : m n; part r two 1 a b; part s two 1 b c; part t two 2 b c", "ok"),
                  ("spots two many", "2"), ("spots many two", "0"))

    def test_errors_of_functions(self):
        self.desk.say("read empty -")
        with self.assertRaises(InvalidForm):
            self.desk.say("price one empty")
        with self.assertRaises(InvalidCircuit):
            self.desk.say("spots empty one")
        taps = "; ".join(f"part t{at} tap 1 n{at}" for at in range(13))
        self.desk.say(f"read taps pins tap m; {taps}")
        self.refused(LimitExceeded, 13, "count taps")
        self.refused(LimitExceeded, 13, "alike taps one")
        self.refused(LimitExceeded, 13, "spots taps taps")
        self.refused(LimitExceeded, 14 ** 13, "price taps taps")
        # A part of another name has an unlike kind of that name: the desk adds only kinds that are there.
        self.says(("remove taps t0", "ok"), ("count taps", "479001600"))
        self.assertTrue(issubclass(InvalidKind, ValueError))

    def test_no_commands(self):
        for wrong in (*ODD, 3, "", " ", "read", "read ", "read one", "read one ", "read  one -", "read One -", "read 1 -",
                      " read one -", "READ one -", "show", "show ", "show one ", " show one", "show  one", "show one two",
                      "show\tone", "show one\n", "names one", "names ", "add", "add one", "add one n", "add one n tap",
                      "add one n tap 1", "add one n tap 1 ", "add one n tap 0 a", "add one n tap -1 a", "add one n tap 2/4 a",
                      "add one n tap 1/0 a", "add one n tap 01 a", "add one n tap +1 a", "add one n tap 1.5 a", "add one n tap x a",
                      "add one N tap 1 a", "add one n Tap 1 a", "add one n tap 1 A", "add one n tap 1 a B", "add one n tap 1  a",
                      "remove one", "remove one t t", "remove one T", "move one t m", "move one t m a a", "move one t M a",
                      "move one t m A", "value one t", "value one t 0", "value one t 4/2", "value one t 1 1", "port one p",
                      "port one p a a", "port one P a", "port one p A", "drop one", "drop one p p", "undo one", "undo one -1",
                      "undo one 01", "undo one 00", "undo one 1000", "undo one 1 1", "undo one x", "undo one \u00b2", "undo one 1.0",
                      "undo one +1", "items", "items one one", "gone one x", "alike one", "alike one one one", "count",
                      "price one", "spots one", "spot one one", "ok", "-", "show -", "show \u00e9", "read \u00e9 -"):
            self.refused(InvalidCommand, wrong, wrong)

    def test_which_error_comes_first(self):
        for line in ("show none", "add none n none 1 a", "remove none n", "move none n m a", "value none n 1", "port none p a",
                     "drop none p", "undo none 0", "items none", "gone none", "alike none nothing", "alike one none", "count none",
                     "price none one", "spots none nothing", "spots one none"):
            self.refused(UnknownName, "none", line)
        self.refused(InvalidCommand, "value none n 0", "value none n 0")
        self.refused(UnknownName, "none", "add one t none 1 a b c d e f g")

    def test_eight_names_and_a_ninth(self):
        for name in "abcdefg":
            self.says((f"read {name} port p n{name}", "ok"))
        self.assertEqual(len(self.desk), 8)
        self.refused(LimitExceeded, 9, "read ninth -")
        self.refused(InvalidText, 0, "read ninth x")
        self.refused(InvalidCommand, "read ninth ", "read ninth ")
        self.says(("read a -", "ok"), ("show a", "-"), ("read one -", "ok"), ("names", "a b c d e f g one"))
        self.refused(LimitExceeded, 9, f"read ninth {TEXT}")
        self.assertEqual(len(self.desk), 8)

    def test_read_anew_has_nothing_to_undo(self):
        self.says(("remove one t", "ok"), (f"read one {TEXT}", "ok"))
        self.refused(NothingToUndo, 1, "undo one 1")

    def test_sessions_are_apart(self):
        self.says((f"read two {TEXT}", "ok"), ("remove two t", "ok"), ("show one", SHOWN), ("items two", "r1+r2"))
        other = Desk()
        self.assertEqual([other.say("names"), len(other)], ["-", 0])
