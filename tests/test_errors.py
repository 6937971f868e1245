"""Every error class: what it derives from, and what it keeps."""

from wishedwires import errors
from tests.helper import Case, ODD

BASES = {
    "WireError": ValueError, "UnknownName": KeyError, "NameInUse": KeyError, "LimitExceeded": OverflowError,
    "NothingToUndo": LookupError, "NoDivision": ZeroDivisionError, "RunFailed": RuntimeError,
}
WIRE_ERRORS = (
    "InvalidBlock", "InvalidCircuit", "InvalidCommand", "InvalidEdit", "InvalidForm", "InvalidKind",
    "InvalidMatching", "InvalidMend", "InvalidName", "InvalidNumber", "InvalidPaper", "InvalidPins",
    "InvalidPrices", "InvalidStep", "InvalidText", "InvalidWay", "NotPositive", "PortsDiffer",
)


class ErrorsTest(Case):
    def test_bases(self):
        for name, base in BASES.items():
            self.assertEqual(getattr(errors, name).__bases__, (base,), name)

    def test_wire_errors(self):
        for name in WIRE_ERRORS:
            self.assertTrue(issubclass(getattr(errors, name), errors.WireError), name)

    def test_all_are_there(self):
        found = {name for name, value in vars(errors).items() if isinstance(value, type)}
        self.assertEqual(found, set(BASES) | set(WIRE_ERRORS))

    def test_given(self):
        for name in [*BASES, *WIRE_ERRORS]:
            if name == "WireError":
                continue
            error = getattr(errors, name)
            for value in (*ODD, 3, "a"):
                self.assertIs(error(value).given, value)
            self.assertRaises(TypeError, error)
            self.assertRaises(TypeError, error, 1, 2)
