"""Points 2, 3, 4 and 23: numbers as terms."""

import unittest

from fanweave import numerals
from fanweave.errors import NoNumber
from fanweave.machines import Namer, Needer, Placer, Valuer
from fanweave.numerals import number_of, numeral, plus, power, times
from fanweave.plain import normal
from fanweave.sharer import Sharer
from fanweave.terms import Term, fun, name, put
from fanweave.texts import read_term
from tests import samples, trees
from tests.cases import RefusalCase

CLASSES = [Placer, Namer, Needer, Valuer, Sharer]


class TestInterface(RefusalCase):
    def test_defined_in_the_file(self):
        for word in ["numeral", "number_of", "plus", "times", "power"]:
            self.assertEqual(getattr(numerals, word).__module__, "fanweave.numerals")
        two = numeral(n=2)
        self.assertEqual(number_of(term=two), 2)
        for made in (plus(other=two, one=name("x")), times(one=two, other=two), power(other=two, one=two)):
            self.assertIs(type(made), Term)


class TestNumerals(RefusalCase):
    def test_told_terms(self):
        for n, text in [(0, "[a] [b] b"), (1, "[a] [b] a b"), (2, "[a] [b] a (a b)"), (3, "[a] [b] a (a (a b))")]:
            self.assertEqual(str(numeral(n)), text)

    def test_0_to_40(self):
        for n in range(41):
            self.assertEqual(numeral(n), samples.numeral(n))
            self.assertIs(type(number_of(numeral(n))), int)
            self.assertEqual(number_of(numeral(n)), n)

    def test_what_is_no_number(self):
        for thing in samples.NO_WHOLE_NUMBERS + [41, 42, 10 ** 30, -10 ** 30, samples.Agreeing()]:
            self.refused(NoNumber, numeral, thing)

    def test_number_of_any_size(self):
        for n in [41, 57, 146, 399, 3000, 50000]:
            self.assertEqual(number_of(samples.numeral(n) if n < 1000 else self.long(n)), n)

    def long(self, n):
        return Term((-1, -1) + (-2, 0) * n + (1,))

    def test_terms_of_no_number(self):
        for text in ["x", "[a] a", "[a] [b] a", "[a] [b] a a", "[a] [b] b b", "[a] [b] b a", "[a] [b] a b b",
                     "[a] [b] a (b b)", "[a] [b] a (b a)", "[a] [b] a (a a)", "[a] [b] a (a b) b", "[a] [b] x",
                     "[a] [b] x b", "[a] [b] a x", "[a] [b] x (a b)", "[a] [b] a (x b)", "[a] [b] [c] b (b c)",
                     "[a] [b] a ([c] a b)", "[x] [x] x x", "x ([a] [b] a b)", "([a] [b] a b) x", "[a] [b] a (a b b)",
                     "[a] [b] b (a (a b))", "[a] [b] a (b (a b))", "[a] [b] ([c] c) b", "[c] [a] [b] a b"]:
            self.assertIsNone(number_of(read_term(text)), text)

    def test_only_such_terms_among_all_small_ones(self):
        told = {}
        for tree in trees.trees_to(7, ("a", "b")):
            term = trees.built(tree)
            number = number_of(term)
            if number is not None:
                told[number] = told.get(number, 0) + 1
                self.assertEqual(term, samples.numeral(number))
        # [a] [b] and [b] [a], and for 0 [a] [a] and [b] [b], too.
        self.assertEqual(told, {0: 4, 1: 2, 2: 2})

    def test_whatever_the_words(self):
        self.assertEqual(number_of(read_term("[succ] [zero] succ (succ zero)")), 2)
        self.assertEqual(number_of(read_term("[x] [x] x")), 0)


class TestSums(RefusalCase):
    def test_told_terms(self):
        one, other = read_term("m f"), read_term("[x] x n")
        self.assertEqual(str(plus(one, other)), "([a] [b] [c] [d] a c (b c d)) (m f) ([a] a n)")
        self.assertEqual(str(times(one, other)), "([a] [b] [c] a (b c)) (m f) ([a] a n)")
        self.assertEqual(str(power(one, other)), "([a] [b] b a) (m f) ([a] a n)")

    def test_free_names_stay_free(self):
        for made in (plus, times, power):
            for word in "abfmnx":
                self.assertEqual(made(name(word), name("y")).free(), sorted([word, "y"]))
                self.assertEqual(made(fun("y", name("y")), name(word)).free(), [word])

    def worths(self, term):
        """The numbers to which the five machines come."""
        told = []
        for kind in CLASSES:
            machine = kind(term)
            machine.run(most=2000)
            told.append(number_of(machine.worth()))
        return told

    def test_sums_and_products(self):
        for one in [0, 1, 2, 3, 5, 8, 40]:
            for other in [0, 1, 2, 4, 7, 40]:
                self.assertEqual(self.worths(plus(numeral(one), numeral(other))), [one + other] * 5)
                if one * other <= 140:
                    self.assertEqual(self.worths(times(numeral(one), numeral(other))), [one * other] * 5)

    def test_powers(self):
        for one, other in [(0, 1), (0, 2), (0, 5), (1, 1), (1, 7), (2, 1), (2, 2), (2, 3), (2, 6), (3, 2), (3, 4),
                           (5, 2), (7, 2), (10, 2), (12, 2), (40, 1), (1, 40)]:
            self.assertEqual(self.worths(power(numeral(one), numeral(other))), [one ** other] * 5, (one, other))

    def test_power_with_0(self):
        for one in [0, 1, 2, 7, 40]:
            term = power(numeral(one), numeral(0))
            for kind in CLASSES:
                machine = kind(term)
                machine.run()
                self.assertEqual(str(machine.worth()), "[a] a")
            self.assertEqual(self.worths(term), [None] * 5)

    def test_sums_of_sums(self):
        term = times(plus(numeral(2), numeral(3)), power(numeral(2), numeral(4)))
        self.assertEqual(self.worths(term), [80] * 5)
        term = plus(times(plus(numeral(1), numeral(1)), numeral(9)), power(numeral(3), plus(numeral(1), numeral(1))))
        self.assertEqual(self.worths(term), [27] * 5)

    def test_nothing_is_changed(self):
        two = numeral(2)
        made = plus(two, two)
        self.assertEqual(made, put(put(read_term("[m] [n] [f] [x] m f (n f x)"), two), two))
        normal(made)
        self.assertEqual((two, made), (numeral(2), plus(numeral(2), numeral(2))))


if __name__ == "__main__":
    unittest.main()
