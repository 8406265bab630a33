"""Points 2, 3, 26 and 27: shapes of terms."""

import random
import unittest

from fanweave import shapes
from fanweave.machines import Namer, Needer, Placer, Valuer
from fanweave.numerals import numeral, plus, power, times
from fanweave.plain import normal, redexes, turned
from fanweave.shapes import is_shaping, shape_of, shaping
from fanweave.sharer import Sharer
from fanweave.terms import name, part_at, put
from fanweave.texts import read_term
from tests import samples, trees, unified
from tests.cases import RefusalCase

TOLD = [
    ("x", {"": "a"}),
    ("[x] x", {"": "(a > a)", "b": "a"}),
    # A function whose name has no place leads from anything.
    ("[x] y", {"": "(a > b)", "b": "b"}),
    ("x y", {"": "a", "f": "(b > a)", "g": "b"}),
    # Letters whatever names are free.
    ("a b", {"": "a", "f": "(b > a)", "g": "b"}),
    ("[x] [y] x", {"": "(a > (b > a))", "b": "(b > a)", "bb": "a"}),
    # Free names of one word have one shape, the names of two functions by one word needn't.
    ("x (y z) z", {"": "a", "f": "(b > a)", "ff": "(c > (b > a))", "fg": "c", "fgf": "(b > c)", "fgg": "b", "g": "b"}),
    ("([x] x) ([x] x)", {"": "(a > a)", "f": "((a > a) > (a > a))", "fb": "(a > a)", "g": "(a > a)", "gb": "a"}),
    ("([x] y) z", {"": "a", "f": "(b > a)", "fb": "a", "g": "b"}),
    ("[a] [b] a (a b)", {"": "((a > a) > (a > a))", "b": "(a > a)", "bb": "a", "bbf": "(a > a)", "bbg": "a",
                         "bbgf": "(a > a)", "bbgg": "a"})]

NONE = ["x x", "[x] x x", "([x] x x) ([x] x x)", "x (y x) (y y)", "[x] x (x y) x x", "[f] ([x] f (x x)) ([x] f (x x))",
        "y z (x x)", "([x] y) (z z)", "[x] y x (y x)", "x (x y) y z x", "([x] x x) ([y] y)", "x ([y] x)",
        # The letter would stand within what it stands for, far within.
        "[x] x ([y] [z] x)", "[x] [y] x (y x) (x y)", "x ([y] [z] x) y"]


class TestInterface(RefusalCase):
    def test_defined_in_the_file(self):
        for word in ["shaping", "is_shaping", "shape_of"]:
            self.assertEqual(getattr(shapes, word).__module__, "fanweave.shapes")
        term = read_term("[x] x")
        self.assertEqual(shaping(term=term), {"": "(a > a)", "b": "a"})
        self.assertIs(is_shaping(shapes=shaping(term), term=term), True)
        self.assertEqual(shape_of(term=term), "(a > a)")

    def test_what_is_told_is_the_askers_own(self):
        term = read_term("[x] x")
        told = shaping(term)
        told.clear()
        self.assertEqual(shaping(term), {"": "(a > a)", "b": "a"})
        handed = shaping(term)
        self.assertIs(is_shaping(term, handed), True)
        self.assertEqual(handed, {"": "(a > a)", "b": "a"})


class TestShaping(RefusalCase):
    def test_told_shapings(self):
        for text, wanted in TOLD:
            term = read_term(text)
            self.assertEqual(shaping(term), wanted, text)
            self.assertEqual(list(shaping(term)), sorted(wanted), text)
            self.assertIs(is_shaping(term, wanted), True, text)

    def test_terms_that_have_none(self):
        for text in NONE:
            self.assertIsNone(shaping(read_term(text)), text)
            self.assertIsNone(shape_of(read_term(text)), text)
        for text in samples.ENDLESS:
            self.assertIsNone(shaping(read_term(text)), text)

    def test_as_by_putting_in(self):
        some = none = 0
        for tree in trees.trees_to(7, ("a", "b")) + list(samples.ending()):
            told = unified.shapes_of(tree)
            term = trees.built(tree)
            if told is None:
                none += 1
                self.assertIsNone(shaping(term), tree)
                self.assertIsNone(shape_of(term))
                continue
            some += 1
            words = ({}, trees.row_of_words())
            wanted = {address: unified.text_of(shape, words) for address, shape in told.items()}
            self.assertEqual(shaping(term), wanted, tree)
            self.assertEqual(list(shaping(term)), list(wanted))
            self.assertEqual(shape_of(term), unified.text_of(told[""], ({}, trees.row_of_words())))
        self.assertGreater(min(some, none), 500)

    def test_letters_past_z(self):
        for many in (25, 26, 27, 28, 30, 58):
            term = name("f")
            for word in range(many):
                term = put(term, name("v" + "abcdefghijklmnopqrstuvwxyz"[word % 26] * (word // 26 + 1)))
            words = trees.row_of_words()
            letters = [next(words) for _ in range(many + 1)]
            told = shaping(term)
            self.assertEqual(told[""], "a")
            self.assertEqual(told["f"], "(b > a)")
            # The function of them all leads through letters from the last one back to the first.
            self.assertEqual(told["f" * many], "".join(f"({each} > " for each in letters[:0:-1]) + "a" + ")" * many)
            self.assertIs(is_shaping(term, told), True)
            self.assertEqual(sorted(set(told.values()) & set(letters)), sorted(letters))
        self.assertEqual(letters[26:28], ["aa", "ab"])

    def test_shape_of_has_its_own_letters(self):
        term = read_term("([x] [y] y) (z w)")
        self.assertEqual(shaping(term)[""], "(a > a)")
        self.assertEqual(shape_of(term), "(a > a)")
        self.assertEqual(shape_of(read_term("x y z")), "a")
        term = read_term("([v] [x] [y] v x) (z w)")
        self.assertEqual(shape_of(part_at(term, "f")), "((a > b) > (a > (c > b)))")
        self.assertEqual(shaping(term)[""], "(a > (b > c))")

    def test_of_numbers(self):
        of_numbers = "((a > a) > (a > a))"
        for n in range(2, 41):
            self.assertEqual(shape_of(numeral(n)), of_numbers)
        self.assertEqual(shape_of(numeral(0)), "(a > (b > b))")
        self.assertEqual(shape_of(numeral(1)), "((a > b) > (a > b))")
        for made in (plus, times, power):
            self.assertEqual(shape_of(made(numeral(3), numeral(2))), of_numbers)


class TestIsShaping(RefusalCase):
    def test_others_come_of_the_widest_one(self):
        chance = random.Random(1)
        texts = ["a", "b", "(a > b)", "longword", "((q > q) > r)", "(c > (c > c))"]
        for tree in samples.ending()[::4]:
            term = trees.built(tree)
            told = shaping(term)
            if told is None:
                continue
            parsed = {address: unified.parsed(text) for address, text in told.items()}
            for _ in range(4):
                others = {word: chance.choice(texts) for word in "abcdefghijklmnopqrstuvwxyz"}
                narrower = {address: unified.with_put_in(shape, others) for address, shape in parsed.items()}
                self.assertIs(is_shaping(term, narrower), True)
                self.check_one_changed(term, narrower, chance)

    def check_one_changed(self, term, told, chance):
        """On the shape of each part hangs that of another, where there are others."""
        address = chance.choice(list(told))
        changed = {**told, address: "(" + told[address] + " > " + told[address] + ")"}
        self.assertIs(is_shaping(term, changed), len(told) == 1, (str(term), changed))

    def test_all_shapings_of_small_terms_are_narrower(self):
        texts = ["a", "b", "(a > a)", "(a > b)", "(b > a)"]
        found = 0
        for tree in trees.trees_to(3, ("x", "y")):
            term = trees.built(tree)
            addresses = [address for address, _ in trees.parts_of(tree)]
            for told in self.all_dicts(addresses, texts):
                wanted = self.fits(tree, told)
                self.assertIs(is_shaping(term, told), wanted, (tree, told))
                found += wanted
                self.assertTrue(not wanted or shaping(term) is not None)
        self.assertGreater(found, 20)

    def all_dicts(self, addresses, texts):
        """All dicts from these addresses to these texts."""
        if not addresses:
            return [{}]
        return [dict(rest, **{addresses[0]: text}) for text in texts for rest in self.all_dicts(addresses[1:], texts)]

    def fits(self, tree, told):
        """Whether the texts fit one another, as read off the tree."""
        parsed = {address: unified.parsed(text) for address, text in told.items()}
        free = {}

        def at(part, address, around):
            if part[0] == "name":
                if part[1] in around:
                    return parsed[address] == around[part[1]]
                return parsed[address] == free.setdefault(part[1], parsed[address])
            if part[0] == "put":
                return (parsed[address + "f"] == (parsed[address + "g"], parsed[address])
                        and at(part[1], address + "f", around) and at(part[2], address + "g", around))
            shape = parsed[address]
            return (isinstance(shape, tuple) and shape[1] == parsed[address + "b"]
                    and at(part[2], address + "b", {**around, part[1]: shape[0]}))

        return at(tree, "", {})

    def test_a_function_whose_name_has_no_place(self):
        term = read_term("[x] y")
        for one in ["a", "b", "(a > a)", "((b > a) > zz)"]:
            self.assertIs(is_shaping(term, {"": f"({one} > q)", "b": "q"}), True)
        self.assertIs(is_shaping(term, {"": "(a > q)", "b": "r"}), False)
        self.assertIs(is_shaping(term, {"": "q", "b": "q"}), False)

    def test_addresses(self):
        term = read_term("x y")
        told = {"": "a", "f": "(b > a)", "g": "b"}
        self.assertIs(is_shaping(term, told), True)
        self.assertIs(is_shaping(term, {"g": "b", "f": "(b > a)", "": "a"}), True)
        for wrong in [{}, {"": "a"}, {"": "a", "f": "(b > a)"}, {"f": "(b > a)", "g": "b"},
                      dict(told, b="a"), dict(told, ff="a"), {"": "a", "f": "(b > a)", "b": "b"},
                      {"": "a", "f": "(b > a)", "G": "b"}, {"x": "a"}]:
            self.assertIs(is_shaping(term, wrong), False)

    def test_texts(self):
        term = name("x")
        for text in ["a", "z", "abcdefgh", "(a > b)", "((a > b) > c)", "(a > (b > c))", "((a > a) > (word > a))"]:
            self.assertIs(is_shaping(term, {"": text}), True, text)
        for text in ["", " ", "A", "a1", "abcdefghi", "a b", "a > b", "(a)", "()", "(a > )", "( > a)", "(a > b",
                     "a > b)", "(a > b))", "((a > b)", "((a > b))", "(a  > b)", "(a >  b)", "( a > b)", "(a > b )",
                     "(a > b) ", " (a > b)", "(a>b)", "(a -> b)", "(a > b > c)", "(a > b) > c", "(a > b)(a > b)",
                     "a(b > c)", "(a > b(", "(a > b]", "(a > b>", "(a > b ", "(a > bb", "((a > b(", "((a > b) > c(",
                     "(abcdefghi > a)", "(a > abcdefghi)", "(a < b)", "[a > b]", "(a > b\n)", "a\n", "é", "(", ")",
                     ">"]:
            self.assertIs(is_shaping(term, {"": text}), False, text)

    def test_free_names_of_one_word(self):
        term = read_term("x y y")
        self.assertIs(is_shaping(term, {"": "a", "f": "(b > a)", "ff": "(b > (b > a))", "fg": "b", "g": "b"}), True)
        self.assertIs(is_shaping(term, {"": "a", "f": "(b > a)", "ff": "(c > (b > a))", "fg": "c", "g": "b"}), False)
        self.assertIs(is_shaping(read_term("x y z"), {"": "a", "f": "(b > a)", "ff": "(c > (b > a))", "fg": "c",
                                                      "g": "b"}), True)

    def test_terms_that_have_none(self):
        for shape in ["a", "(a > a)", "((a > a) > a)"]:
            for text in ["x x", "[x] x x"]:
                term = read_term(text)
                told = {address: shape for address, _ in trees.parts_of(trees.parsed(text))}
                self.assertIs(is_shaping(term, told), False)

    def test_of_anything(self):
        term = read_term("x y")
        told = {"": "a", "f": "(b > a)", "g": "b"}
        for thing in samples.NO_TEXTS + [list(told.items()), list(told), "a", tuple(told), samples.Agreeing()]:
            self.assertIs(is_shaping(term, thing), False)
            self.assertIs(is_shaping(name("x"), {"": thing}), thing == "a" and isinstance(thing, str))
            if not isinstance(thing, (list, dict, set)) and type(thing).__hash__:
                self.assertIs(is_shaping(name("x"), {thing: "a"}), False)
                self.assertIs(is_shaping(term, {**told, thing: "a"}), False)


class TestWhatHasAShapingEnds(RefusalCase):
    def test_all_machines_end(self):
        ended = 0
        for tree in trees.trees_to(7, ("a",)) + list(samples.ending()[::3]):
            term = trees.built(tree)
            if shape_of(term) is not None:
                for kind in (Placer, Namer, Needer, Valuer, Sharer):
                    machine = kind(term)
                    machine.run()
                    self.assertEqual(machine.worth(), normal(term)[0])
                ended += 1
        self.assertGreater(ended, 150)

    def test_a_turn_leaves_each_shape(self):
        for tree in samples.ending()[::3]:
            term = trees.built(tree)
            shape = shape_of(term)
            for address in redexes(term) if shape is not None else []:
                behind = shape_of(turned(term, address))
                self.assertIsNotNone(behind)
                # The one behind is as wide or wider: the one ahead comes of it.
                self.assertTrue(self.comes_of(unified.parsed(shape), unified.parsed(behind), {}))

    def comes_of(self, narrow, wide, others):
        if isinstance(wide, tuple):
            return isinstance(narrow, tuple) and all(self.comes_of(*pair, others) for pair in zip(narrow, wide))
        return others.setdefault(wide, narrow) == narrow


class TestBounds(RefusalCase):
    def test_deep_terms(self):
        for term in [samples.deep_left(400), samples.deep_right(400), samples.deep_functions(400),
                     samples.deep_brackets(400)]:
            told = shaping(term)
            self.assertEqual(len(told), len(term))
            self.assertEqual(told[""], shape_of(term))
            self.assertIs(is_shaping(term, told), True)

    def test_shapes_of_3000_signs(self):
        # Each pair holds what is handed in twice.
        term = read_term("x")
        for _ in range(7):
            term = put(read_term("[p] [z] z p p"), term)
        shape = shape_of(term)
        self.assertGreater(len(shape), 1000)
        self.assertEqual(shape, self.anew(unified.shapes_of(trees.parsed(str(term)))[""]))
        self.assertIs(is_shaping(term, shaping(term)), True)

    def anew(self, shape):
        return unified.text_of(shape, ({}, trees.row_of_words()))

    def test_a_hundred_thousand_parts(self):
        self.assertIsNone(shaping(samples.large()))
        self.assertIsNone(shape_of(samples.large()))
        self.assertIs(is_shaping(samples.large(), {"": "a"}), False)


if __name__ == "__main__":
    unittest.main()
