"""Point 22 and the interface section junctions."""

from itertools import chain, combinations, product
from random import Random
from time import process_time

from wishedwires.junctions import greatest_pairs, touching_set
from tests.helper import Case


def are_apart(pairs):
    return len({one for one, _ in pairs}) == len({other for _, other in pairs}) == len(pairs)


def most(pairs):
    """How many of the pairs can be apart, by trial."""
    different = sorted(set(pairs))
    return max(len(some) for many in range(len(different) + 1) for some in combinations(different, many) if are_apart(some))


class JunctionsTest(Case):
    def check(self, pairs):
        given = list(pairs)
        kept, (firsts, seconds) = greatest_pairs(pairs), touching_set(pairs)
        self.assertEqual(pairs, given)
        self.assertEqual([kept, firsts, seconds], [tuple(sorted(kept)), tuple(sorted(set(firsts))), tuple(sorted(set(seconds)))])
        self.assertTrue(set(kept) <= set(pairs) and are_apart(kept))
        self.assertTrue(all(one in firsts or other in seconds for one, other in pairs))
        self.assertEqual(len(kept), len(firsts) + len(seconds))
        self.assertEqual([greatest_pairs(given), touching_set(given)], [kept, (firsts, seconds)])
        return kept

    def test_all_small_ones(self):
        names = list(product("ab", "xyz"))
        for some in chain.from_iterable(combinations(names, many) for many in range(7)):
            self.assertEqual(len(self.check(list(some))), most(some))

    def test_random(self):
        chance = Random(51)
        for _ in range(300):
            pairs = [(chance.choice("abcde"), chance.choice("abcde")) for _ in range(chance.randint(0, 9))]
            self.assertEqual(len(self.check(pairs)), most(pairs))

    def test_no_pairs(self):
        self.assertEqual([greatest_pairs([]), touching_set([])], [(), ((), ())])

    def test_pairs_twice(self):
        self.assertEqual([greatest_pairs([("a", "x")] * 3), sum(map(len, touching_set([("a", "x")] * 3)))], [(("a", "x"),), 1])
        self.check([("b", "x"), ("a", "x"), ("b", "x"), ("b", "y"), ("a", "x")])

    def test_names_on_both_sides(self):
        self.assertEqual(len(self.check([("a", "b"), ("b", "a")])), 2)
        self.assertEqual(len(self.check([("a", "a"), ("a", "b"), ("b", "a")])), 2)
        self.assertEqual(touching_set([("a", "b"), ("a", "c"), ("a", "a")]), (("a",), ()))
        self.assertEqual(touching_set([("b", "a"), ("c", "a"), ("a", "a")]), ((), ("a",)))

    def test_chains(self):
        for many in (1, 2, 7, 40, 41, 90):
            names = [f"n{at:02}" for at in range(many + 1)]
            pairs = [(names[at], names[at + 1]) if at % 2 else (names[at + 1], names[at]) for at in range(many)]
            for told in (pairs, pairs[::-1], Random(1).sample(pairs, many)):
                self.assertEqual(len(self.check(told)), (many + 1) // 2)

    def test_great_ones(self):
        begun = process_time()
        names = [f"n{at:02}" for at in range(30)]
        self.assertEqual(len(self.check([(one, other) for one in names for other in names])), 30)
        self.assertEqual(len(self.check([(one, other) for one in names for other in names if one <= other])), 30)
        self.assertEqual(len(self.check([(one, other) for one in names for other in names if one < other])), 29)
        self.assertLess(process_time() - begun, 10)
