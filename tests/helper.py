"""What the tests share."""

import unittest

# Values of many kinds that are no integers, texts or objects of the package.
ODD = (None, True, False, 1.5, b"a", [], (), {}, ["a"], ("a",), {"a": "b"}, object())

WRONG_WORDS = ("", "A", "1a", "a b", "a-b", "a_b", "\u00e9", "a\u00b2", "a" * 13, "a/b", "a\n", " a", 3, *ODD)
WORDS = ("a", "z9", "r1", "a" * 12, "abc0123456")

NO_PARTS = (*ODD, "a", 3)

WRONG_NAMES = ("", "/", "a/", "/a", "a//b", "a/1", "a/B", "a" * 13, "a/" + "b" * 13, "a b",
               "/".join(["a"] * 65), 3, *ODD)
NAMES = ("a", "a/b", "u1/v2/x", "/".join(["a" * 12] * 64))


class Case(unittest.TestCase):
    """A test case that can ask for an error together with what it keeps."""

    def fails(self, error, given, call, *args, **more):
        """The call raises just this class of error, which keeps the very value given."""
        with self.assertRaises(error) as caught:
            call(*args, **more)
        self.assertEqual(error.__name__, type(caught.exception).__name__)
        kept = caught.exception.given
        self.assertTrue(kept is given or (type(kept) is type(given) and kept == given), (kept, given))

    def keeps(self, circuit, error, given, call, *args, **more):
        """The call fails, and the circuit is as before: its ports in order, its parts, and which objects these are."""
        before = told(circuit)
        self.fails(error, given, call, *args, **more)
        self.assertEqual(told(circuit), before)


def told(circuit):
    """All that can be told of a circuit."""
    parts = [(name, id(part), part.kind.text, str(part.value), part.nets) for name, part in circuit.parts()]
    return list(circuit.ports.items()), parts
