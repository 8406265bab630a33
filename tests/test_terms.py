"""Points 2, 3, 5, 6 and 7: terms, their addresses, and putting in."""

import unittest

from fanweave import terms
from fanweave.errors import NoAddress, NoWord, SpinError
from fanweave.terms import LIMIT, Term, fun, kind_at, name, part_at, put, put_in
from tests import samples, trees

WRONG_WORDS = samples.NO_TEXTS + [
    "", "abcdefghi", "a" * 600, "A", "Ab", "aB", "a1", "1", "a b", " a", "a ", "a\n", "\n", "-", "a_b", "_",
    "\u00e9", "\u00aa", "\u03b1", "\u0131", "a\u0301", "`", "{", "@", "[", "[a] a", "(a)", "\x00"]
WORDS = ["a", "z", "x", "ab", "zz", "abcdefg", "abcdefgh", "zzzzzzzz"]
SMALL = trees.trees_to(5, ("a", "b"))
SMALLER = trees.trees_to(4, ("a", "b", "x"))


class TestWords(unittest.TestCase):
    def test_words_of_one_to_eight_letters(self):
        for word in WORDS + list(trees.LETTERS):
            with self.subTest(word):
                self.assertEqual(name(word).free(), [word])
                self.assertEqual(fun(word, name(word)).free(), [])
                self.assertEqual(put_in(name(word), word, name("other")), name("other"))

    def test_what_is_no_word_is_refused(self):
        for word in WRONG_WORDS:
            with self.subTest(repr(word)):
                for call in (lambda: name(word), lambda: fun(word, name("a")),
                             lambda: put_in(name("a"), word, name("b"))):
                    with self.assertRaises(SpinError) as told:
                        call()
                    self.assertIs(type(told.exception), NoWord)


class TestMaking(unittest.TestCase):
    def test_made_values_are_terms(self):
        made = [name("a"), fun("a", name("a")), put(name("a"), name("b")), put_in(name("a"), "a", name("b")),
                part_at(name("a"), "")]
        for term in made:
            self.assertIs(type(term), Term)

    def test_arguments_by_name(self):
        self.assertEqual(name(word="a"), name("a"))
        self.assertEqual(fun(body=name("a"), word="a"), fun("a", name("a")))
        self.assertEqual(put(argument=name("a"), function=name("b")), put(name("b"), name("a")))
        self.assertEqual(put_in(other=name("c"), word="a", term=name("a")), name("c"))
        self.assertEqual(part_at(address="b", term=fun("a", name("x"))), name("x"))
        self.assertEqual(kind_at(address="b", term=fun("a", name("x"))), "name")

    def test_limit(self):
        self.assertEqual(LIMIT, 400)
        self.assertIs(type(LIMIT), int)

    def test_interface_is_defined_in_the_file(self):
        for word in ["Term", "name", "fun", "put", "put_in", "part_at", "kind_at"]:
            self.assertEqual(getattr(terms, word).__module__, "fanweave.terms")
        for method in ["free", "is_closed", "__eq__", "__len__", "__str__"]:
            self.assertIn(method, vars(Term))

    def test_fun_binds_names_that_no_function_within_binds(self):
        inner = fun("x", name("x"))
        both = fun("x", put(name("x"), inner))
        self.assertEqual(both, fun("y", put(name("y"), fun("z", name("z")))))
        self.assertNotEqual(both, fun("y", put(name("y"), fun("z", name("y")))))
        self.assertEqual(fun("x", inner), fun("y", inner))
        self.assertNotEqual(fun("x", fun("y", name("x"))), fun("x", fun("y", name("y"))))


class TestTerms(unittest.TestCase):
    def test_equal_where_alike_but_for_bound_words(self):
        made = [(tree, trees.built(tree)) for tree in SMALLER]
        for one, mine in made:
            for other, its in made:
                same = trees.alike(one, other)
                self.assertEqual(mine == its, same, (one, other))
                self.assertEqual(mine != its, not same, (one, other))

    def test_unequal_to_anything_else(self):
        for term in (name("a"), fun("a", name("a")), put(name("a"), name("b"))):
            for other in [None, True, 0, 1, "a", str(term), b"a", ["a"], ("a",), {}, Term, object(), term.free()]:
                self.assertIs(term == other, False)
                self.assertIs(term != other, True)
            self.assertIs(term == samples.Agreeing(), False)
            self.assertIs(term != samples.Agreeing(), True)

    def test_equal_tells_a_truth(self):
        self.assertIs(name("a") == name("a"), True)
        self.assertIs(name("a") == name("b"), False)

    def test_free_names_keep_their_words(self):
        self.assertNotEqual(name("a"), name("b"))
        self.assertNotEqual(fun("a", name("x")), fun("a", name("y")))
        self.assertNotEqual(fun("x", name("x")), fun("x", name("y")))

    def test_length_counts_each_place(self):
        shared = put(name("a"), name("b"))
        self.assertEqual(len(name("a")), 1)
        self.assertEqual(len(shared), 3)
        self.assertEqual(len(put(shared, shared)), 7)
        self.assertEqual(len(fun("a", put(shared, shared))), 8)

    def test_free_closed_and_length_of_all_small_trees(self):
        for tree in SMALL + SMALLER:
            term = trees.built(tree)
            free = sorted(trees.free_of(tree))
            self.assertEqual(term.free(), free)
            self.assertIs(term.is_closed(), free == [])
            self.assertEqual(len(term), trees.size_of(tree))

    def test_free_is_sorted_as_texts_each_once(self):
        term = name("x")
        for word in ["ab", "b", "x", "a", "ab", "abc", "aa"]:
            term = put(term, name(word))
        self.assertEqual(term.free(), ["a", "aa", "ab", "abc", "b", "x"])
        self.assertEqual(fun("ab", term).free(), ["a", "aa", "abc", "b", "x"])

    def test_free_is_the_askers_own(self):
        term = put(name("b"), name("a"))
        asked = term.free()
        asked.append("c")
        asked[0] = "z"
        self.assertEqual(term.free(), ["a", "b"])
        self.assertEqual(str(term), "b a")
        self.assertEqual(term, put(name("b"), name("a")))
        self.assertIsNot(term.free(), term.free())


class TestAddresses(unittest.TestCase):
    def test_all_parts_of_all_small_trees(self):
        for tree in SMALL + SMALLER:
            term = trees.built(tree)
            for address, part in trees.parts_of(trees.told(tree)):
                self.assertEqual(kind_at(term, address), part[0])
                found = part_at(term, address)
                self.assertEqual(found, trees.built(part), (tree, address))
                self.assertEqual(str(found), trees.text_of(trees.told(part)), (tree, address))

    def test_the_empty_address_is_the_term(self):
        for tree in SMALLER:
            self.assertEqual(part_at(trees.built(tree), ""), trees.built(tree))

    def test_bound_names_are_told_by_told_words(self):
        term = fun("x", fun("y", put(name("x"), name("y"))))
        self.assertEqual(part_at(term, "bb"), put(name("a"), name("b")))
        self.assertEqual(part_at(term, "b"), fun("q", put(name("a"), name("q"))))
        self.assertEqual(part_at(fun("b", put(name("b"), name("a"))), "b"), put(name("b"), name("a")))
        self.assertEqual(part_at(fun("x", put(name("x"), name("a"))), "b"), put(name("b"), name("a")))

    def test_words_are_those_of_the_whole_term(self):
        term = put(fun("x", name("x")), name("a"))
        self.assertEqual(part_at(term, "f"), fun("a", name("a")))
        self.assertEqual(part_at(term, "fb"), name("b"))
        self.assertEqual(part_at(put(name("b"), term), "gfb"), name("c"))

    def test_alike_words_bound_twice(self):
        term = fun("x", put(name("x"), fun("x", put(name("x"), name("y")))))
        self.assertEqual(part_at(term, "b"), put(name("a"), fun("b", put(name("b"), name("y")))))
        self.assertEqual(part_at(term, "bgb"), put(name("b"), name("y")))

    def test_what_is_no_address_is_refused(self):
        for tree in trees.trees_to(4, ("a",)):
            term = trees.built(tree)
            known = {address for address, _ in trees.parts_of(tree)}
            for address in known:
                for letter in ["b", "f", "g", "B", "a", " ", "\n", "\u00e9", "bb", "fg", "gf"]:
                    if address + letter not in known:
                        self.refused(term, address + letter)
                    if letter + address not in known:
                        self.refused(term, letter + address)

    def test_things_of_other_kinds_are_no_addresses(self):
        term = fun("a", put(name("a"), name("b")))
        for address in samples.NO_TEXTS + [["b"], ("b", "f"), b"b", [""], {"b": 1}, {"b"}]:
            self.refused(term, address)

    def refused(self, term, address):
        for call in (part_at, kind_at):
            with self.assertRaises(SpinError, msg=repr(address)) as told:
                call(term, address)
            self.assertIs(type(told.exception), NoAddress)


class TestPutIn(unittest.TestCase):
    def test_all_small_trees(self):
        others = trees.trees_to(3, ("a", "b"))
        for tree in trees.trees_to(4, ("a", "b")):
            for other in others:
                term = put_in(trees.built(tree), "a", trees.built(other))
                wanted = trees.with_put_in(tree, "a", other)
                self.assertEqual(term, trees.built(wanted), (tree, other))
                self.assertEqual(str(term), trees.text_of(trees.told(wanted)), (tree, other))

    def test_free_names_stay_free(self):
        told = put_in(fun("y", put(name("x"), name("y"))), "x", name("y"))
        self.assertEqual(told, fun("z", put(name("y"), name("z"))))
        self.assertEqual(told.free(), ["y"])
        self.assertEqual(str(put_in(fun("y", name("x")), "x", name("a"))), "[b] a")

    def test_bound_names_are_left(self):
        term = put(name("x"), fun("x", name("x")))
        self.assertEqual(put_in(term, "x", name("y")), put(name("y"), fun("x", name("x"))))

    def test_what_was_put_in_is_not_gone_through_again(self):
        self.assertEqual(put_in(put(name("x"), name("y")), "x", put(name("x"), name("y"))),
                         put(put(name("x"), name("y")), name("y")))

    def test_a_word_that_is_not_free_leaves_the_term(self):
        term = fun("x", put(name("x"), name("y")))
        self.assertEqual(put_in(term, "x", name("z")), term)
        self.assertEqual(put_in(term, "w", name("z")), term)

    def test_functions_put_in_below_functions(self):
        term = fun("a", fun("b", put(name("x"), put(name("a"), name("x")))))
        told = put_in(term, "x", fun("c", put(name("c"), name("b"))))
        inner = fun("q", put(name("q"), name("b")))
        self.assertEqual(told, fun("r", fun("s", put(inner, put(name("r"), inner)))))

    def test_nothing_that_is_handed_in_is_changed(self):
        term, other = fun("y", put(name("x"), name("y"))), put(name("y"), name("x"))
        texts = (str(term), str(other))
        first = put_in(term, "x", other)
        self.assertEqual((str(term), str(other)), texts)
        self.assertEqual(put_in(term, "x", other), first)
        fun("x", other)
        put(term, term)
        part_at(term, "b")
        with self.assertRaises(NoWord):
            put_in(term, "X", other)
        with self.assertRaises(NoAddress):
            part_at(term, "f")
        self.assertEqual((str(term), str(other)), texts)


class TestLargeTerms(unittest.TestCase):
    def test_left_leaning(self):
        for many in (400, 3000):
            term = samples.deep_left(many)
            self.assertEqual(term, samples.deep_left(many))
            self.assertNotEqual(term, samples.deep_left(many - 1))
            self.assertEqual(len(term), 2 * many + 1)
            self.assertEqual(term.free(), ["x", "y"])
            self.assertEqual(kind_at(term, "f" * (many - 1)), "put")
            self.assertEqual(kind_at(term, "f" * many), "name")
            self.assertEqual(part_at(term, "f" * (many - 2)), samples.deep_left(2))
            self.assertRaises(NoAddress, kind_at, term, "f" * (many + 1))
            self.assertEqual(put_in(term, "x", term), samples.deep_left(2 * many))

    def test_right_leaning(self):
        for many in (400, 3000):
            term = samples.deep_right(many)
            self.assertEqual(term, samples.deep_right(many))
            self.assertNotEqual(term, samples.deep_right(many - 1))
            self.assertEqual(len(term), 2 * many + 1)
            self.assertEqual(kind_at(term, "g" * many), "name")
            self.assertEqual(part_at(term, "g" * (many - 2)), samples.deep_right(2))
            self.assertRaises(NoAddress, part_at, term, "g" * (many + 1))
            self.assertEqual(put_in(term, "y", term), samples.deep_right(2 * many))

    def test_functions_within_functions(self):
        for many in (400, 1000):
            term = samples.deep_functions(many)
            self.assertEqual(term, samples.deep_functions(many))
            self.assertNotEqual(term, samples.deep_functions(many - 1))
            self.assertEqual(len(term), many + 1)
            self.assertTrue(term.is_closed())
            self.assertEqual(kind_at(term, "b" * many), "name")
            self.assertEqual(part_at(term, "b" * (many - 1)), fun("x", name("x")))
            self.assertEqual(put_in(term, "x", name("y")), term)
        self.assertEqual(part_at(samples.deep_functions(400), "b" * 400), name("oj"))

    def test_brackets_within_brackets(self):
        for many in (200, 1000):
            term = samples.deep_brackets(many)
            self.assertEqual(term, samples.deep_brackets(many))
            self.assertEqual(len(term), 3 * many + 1)
            self.assertEqual(term.free(), ["y"])
            self.assertEqual(part_at(term, "fb" * (many - 1)), samples.deep_brackets(1))

    def test_a_hundred_thousand_parts(self):
        term = samples.large()
        self.assertEqual(len(term), 2 ** 17 - 1)
        self.assertEqual(term, samples.large())
        self.assertEqual(term.free(), ["x"])
        self.assertEqual(kind_at(term, "g" * 16), "name")
        self.assertEqual(len(part_at(term, "g")), 2 ** 16 - 1)
        self.assertEqual(part_at(term, "f"), part_at(term, "g"))
        bound = fun("x", term)
        self.assertTrue(bound.is_closed())
        self.assertEqual(part_at(bound, "b"), put_in(term, "x", name("a")))
        self.assertNotEqual(bound, fun("y", term))


if __name__ == "__main__":
    unittest.main()
