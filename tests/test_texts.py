"""Points 2, 3, 8 and 9: the texts of terms."""

import unittest
from itertools import islice, product

from fanweave import texts
from fanweave.errors import NoText, SpinError
from fanweave.terms import Term, fun, name, put, put_in
from fanweave.texts import read_term
from tests import samples, trees


class TextCase(unittest.TestCase):
    def refused(self, text, at):
        with self.assertRaises(SpinError, msg=repr(text)) as told:
            read_term(text)
        self.assertIs(type(told.exception), NoText)
        self.assertEqual(told.exception.at, at, repr(text))
        self.assertIs(type(told.exception.at), int)


class TestReading(TextCase):
    def test_the_parts_of_the_grammar(self):
        x, y, z = name("x"), name("y"), name("z")
        for text, term in [
                ("x", x),
                ("abcdefgh", name("abcdefgh")),
                ("x y", put(x, y)),
                ("x y z", put(put(x, y), z)),
                ("x (y z)", put(x, put(y, z))),
                ("[x] x", fun("x", x)),
                ("[x] x y", fun("x", put(x, y))),
                ("([x] x) y", put(fun("x", x), y)),
                ("([x] x) y z", put(put(fun("x", x), y), z)),
                ("x ([y] y)", put(x, fun("y", y))),
                ("x ([y] y) z", put(put(x, fun("y", y)), z)),
                ("[x] [y] x", fun("x", fun("y", x))),
                ("[x] ([y] y) x", fun("x", put(fun("y", y), x))),
                ("([x] ([y] y) x) z", put(fun("x", put(fun("y", y), x)), z)),
                ("x (([y] y) z)", put(x, put(fun("y", y), z))),
                ("x (y (z x)) y", put(put(x, put(y, put(z, x))), y))]:
            with self.subTest(text):
                told = read_term(text)
                self.assertIs(type(told), Term)
                self.assertEqual(told, term)

    def test_with_whatever_words(self):
        self.assertEqual(read_term("[abcdefgh] abcdefgh z"), fun("x", put(name("x"), name("z"))))
        self.assertEqual(read_term("[x] x ([x] x x) x"), read_term("[a] a ([b] b b) a"))
        self.assertEqual(read_term("[x] [x] x"), read_term("[a] [b] b"))
        self.assertEqual(read_term("([x] x) x"), put(fun("y", name("y")), name("x")))
        self.assertEqual(read_term("y ([x] x) x ([y] x)").free(), ["x", "y"])

    def test_all_small_trees(self):
        for tree in trees.trees_to(4, ("a", "b", "x")):
            self.assertEqual(read_term(trees.text_of(tree)), trees.built(tree))

    def test_argument_by_name(self):
        self.assertEqual(read_term(text="x"), name("x"))
        self.assertEqual(texts.read_term.__module__, "fanweave.texts")


class TestRefusing(TextCase):
    def test_the_texts_of_the_document(self):
        self.refused("abcdefghi", 8)
        self.refused("([x] x)", 7)
        self.refused("x (y)", 4)

    def test_what_is_no_text(self):
        for thing in samples.NO_TEXTS + [b"x", [], ["x"], ("x", "y")]:
            self.refused(thing, 0)

    def test_texts_that_end_too_early(self):
        for text in ["", "[", "[x", "[abcdefgh", "[x]", "[x] ", "[x] [", "(", "([", "([x", "([x]", "([x] ", "([x] x",
                     "([x] x) ", "x ", "x (", "x ((", "x ([y] y", "x (y", "x (y ", "x (y z", "x (y z) ", "x (([y] y)",
                     "x (([y] y) z", "x y "]:
            self.refused(text, len(text))

    def test_signs_that_do_not_fit(self):
        for text, at in [("X", 0), ("1", 0), (")", 0), ("]", 0), (" x", 0), ("\n", 0), ("\u00e9", 0),
                         ("x1", 1), ("xX", 1), ("x\n", 1), ("x[", 1), ("x(", 1), ("x]", 1), ("x)", 1), ("x\u00aa", 1),
                         ("x  y", 2), ("x [y] y", 2), ("x )", 2), ("x ]", 2), ("x y)", 3),
                         ("[]", 1), ("[X]", 1), ("[ x]", 1), ("[x ]", 2), ("[x]x", 3), ("[x]  x", 4), ("[x] )", 4),
                         ("[abcdefghi] x", 9), ("((", 1), ("(x", 1), ("( ", 1), ("()", 1), ("(([x] x) y) z", 1),
                         ("([x] x)x", 7), ("([x] x))", 7), ("([x] x)(", 7), ("x (y))", 4), ("x (y z)y", 7),
                         ("x (y z))", 7), ("x (([y] y))", 10), ("x ((y z) w)", 4), ("x ( y z)", 3),
                         ("x ([y] y z) ", 12), ("(x y) z", 1), ("abcdefgh abcdefghi", 17)]:
            with self.subTest(text):
                self.refused(text, at)

    def test_field_is_the_longest_beginning_of_a_text(self):
        # With x alone as a word, what six signs can begin is a beginning of some text of at most eleven parts.
        pool = {trees.text_of(tree): tree for tree in trees.trees_to(11, ("x",))}
        beginnings = {text[:many] for text in pool for many in range(len(text) + 1)}
        for many in range(7):
            for signs in product("x[]() ", repeat=many):
                text = "".join(signs)
                if text in pool:
                    self.assertEqual(read_term(text), trees.built(pool[text]))
                elif "xx" not in text:
                    at = max(size for size in range(many + 1) if text[:size] in beginnings)
                    self.refused(text, at)

    def test_a_refusal_changes_nothing(self):
        self.refused("x (y)", 4)
        self.assertEqual(str(read_term("x (y z)")), "x (y z)")
        self.refused("x (y)", 4)


class TestWriting(TextCase):
    def test_all_small_trees(self):
        for tree in trees.trees_to(5, ("a", "b")) + trees.trees_to(4, ("a", "b", "x")):
            term = trees.built(tree)
            text = str(term)
            self.assertEqual(text, trees.text_of(trees.told(tree)))
            self.assertEqual(read_term(text), term)
            self.assertEqual(str(read_term(text)), text)

    def test_words_by_the_letters_b_in_the_address(self):
        for text, told in [("[x] [y] x y", "[a] [b] a b"),
                           ("([x] x) ([y] [z] z)", "([a] a) ([a] [b] b)"),
                           ("[x] x ([x] x) ([y] x)", "[a] a ([b] b) ([b] a)"),
                           ("[b] [a] b a", "[a] [b] a b")]:
            self.assertEqual(str(read_term(text)), told)

    def test_free_words_of_the_whole_term_are_left_out(self):
        for text, told in [("[x] a", "[b] a"), ("[x] x b", "[a] a b"), ("[x] [y] b", "[a] [c] b"),
                           ("([x] x) a", "([b] b) a"), ("a ([x] [y] [z] c)", "a ([b] [d] [e] c)"),
                           ("[x] ([a] a) a", "[b] ([c] c) a"), ("[a] a", "[a] a"), ("[a] a ([b] b)", "[a] a ([b] b)")]:
            self.assertEqual(str(read_term(text)), told)

    def test_words_of_two_letters(self):
        for many in (26, 27, 53, 400):
            term = name("x")
            for _ in range(many):
                term = fun("x", term)
            words = list(islice(trees.row_of_words(), many))
            self.assertEqual(str(term), "".join(f"[{word}] " for word in words) + words[-1])

    def test_words_of_two_letters_with_free_ones(self):
        term = put(name("ab"), name("c"))
        for _ in range(30):
            term = fun("x", term)
        words = [word for word in islice(trees.row_of_words(), 32) if word not in ("ab", "c")]
        self.assertEqual(str(term), "".join(f"[{word}] " for word in words) + "ab c")

    def test_equal_terms_have_one_text(self):
        made = [trees.built(tree) for tree in trees.trees_to(4, ("a", "b", "x"))]
        texts_of = [str(term) for term in made]
        for one, mine in zip(made, texts_of):
            for other, its in zip(made, texts_of):
                self.assertEqual(one == other, mine == its)


class TestLargeTexts(TextCase):
    def test_deep_terms(self):
        for term, text in [(samples.deep_left(400), "x" + " y" * 400),
                           (samples.deep_right(400), "x (" * 399 + "x y" + ")" * 399),
                           (samples.deep_left(3000), "x" + " y" * 3000),
                           (samples.deep_right(3000), "x (" * 2999 + "x y" + ")" * 2999)]:
            self.assertEqual(str(term), text)
            self.assertEqual(read_term(text), term)

    def test_deep_functions_and_brackets(self):
        for term in (samples.deep_functions(400), samples.deep_brackets(200), samples.deep_brackets(1000)):
            self.assertEqual(read_term(str(term)), term)
        words = list(islice(trees.row_of_words(), 203))
        words.remove("y")
        ahead = "".join(f"([{word}] " for word in words[:200])
        self.assertEqual(str(samples.deep_brackets(200)), ahead + words[199] + ") y" * 200)

    def test_a_hundred_thousand_parts(self):
        term = fun("x", samples.large())
        text = str(term)
        self.assertEqual(read_term(text), term)
        self.assertEqual(str(put_in(samples.large(), "x", name("z"))), text[4:].replace("a", "z"))
        self.refused(text + ")", len(text))
        self.refused(text[:-1], len(text) - 1)


if __name__ == "__main__":
    unittest.main()
