"""Points 2, 3, 10 and 11: redexes, turns at them, and the worth."""

import random
import unittest

from fanweave import plain
from fanweave.errors import NoAddress, NoRedex, TooLong
from fanweave.plain import all_turned, normal, redexes, turned
from fanweave.terms import Term, fun, kind_at, name, part_at, put, put_in
from fanweave.texts import read_term
from tests import labelled, samples, trees
from tests.cases import RefusalCase

SMALL = trees.trees_to(6, ("a", "b"))
OMEGA = "([x] x x) ([x] x x)"


class PlainCase(RefusalCase):
    def told(self, term, text):
        self.assertIs(type(term), Term)
        self.assertEqual(str(term), text)


class TestRedexes(PlainCase):
    def test_interface_is_defined_in_the_file(self):
        for word in ["redexes", "turned", "all_turned", "normal"]:
            self.assertEqual(getattr(plain, word).__module__, "fanweave.plain")
        term = read_term("([x] x) y")
        self.assertEqual(redexes(term=term), [""])
        self.assertEqual(turned(address="", term=term), name("y"))
        self.assertEqual(all_turned(addresses=[""], term=term), name("y"))
        self.assertEqual(normal(most=1, term=term), (name("y"), 1))
        self.assertRaises(TypeError, normal, term, 1)

    def test_terms_without_redexes(self):
        for text in ["x", "[x] x", "x y", "[x] x ([y] y)", "x ([y] y) z", "[x] x ([y] x y) ([z] z)"]:
            self.assertEqual(redexes(read_term(text)), [])

    def test_within_functions_and_arguments_of_one_another(self):
        for text, told in [("([x] x) y", [""]),
                           ("[z] ([x] x) y", ["b"]),
                           ("([x] x) y z", ["f"]),
                           ("z (([x] x) y)", ["g"]),
                           ("([x] ([y] y) x) (([z] z) x)", ["", "fb", "g"]),
                           ("([x] x) y (([x] x) y)", ["f", "g"]),
                           ("([x] [y] ([z] z) x) (([x] x) y) (([x] x) y)", ["f", "ffbb", "fg", "g"])]:
            self.assertEqual(redexes(read_term(text)), told, text)

    def test_all_small_trees(self):
        for tree in SMALL + list(samples.ending()):
            term = trees.built(tree)
            told = redexes(term)
            self.assertEqual(told, sorted(told))
            self.assertEqual(told, [address for address, part in trees.parts_of(tree)
                                    if part[0] == "put" and part[1][0] == "fun"])
            for address in told:
                self.assertEqual((kind_at(term, address), kind_at(term, address + "f")), ("put", "fun"))

    def test_the_list_is_the_askers_own(self):
        term = read_term(OMEGA)
        told = redexes(term)
        told.append("f")
        self.assertEqual(redexes(term), [""])
        self.assertIsNot(redexes(term), redexes(term))

    def test_large_terms(self):
        self.assertEqual(redexes(samples.deep_brackets(400)), ["fb" * many for many in range(400)])
        self.assertEqual(redexes(samples.deep_functions(400)), [])
        term = put_in(samples.large(), "x", fun("a", name("a")))
        self.assertEqual(len(redexes(term)), 2 ** 15)
        self.assertEqual(redexes(term)[:2], ["f" * 15, "f" * 14 + "g"])


class TestTurned(PlainCase):
    def test_name_nowhere_once_and_many_times(self):
        for text, told in [("([x] y) z", "y"), ("([x] x) z", "z"), ("([x] x x (y x)) z", "z z (y z)"),
                           ("([x] [y] y x x) (z w)", "[a] a (z w) (z w)"), ("([x] y) (([z] z) w)", "y")]:
            self.told(turned(read_term(text), ""), text=told)

    def test_argument_is_the_functions_name_itself(self):
        self.told(turned(read_term("([x] x) x"), ""), "x")
        self.told(turned(read_term("([x] x y x) x"), ""), "x y x")
        self.told(turned(read_term("[x] ([x] x ([x] x) x) x"), "b"), "[a] a ([b] b) a")

    def test_no_free_name_is_caught(self):
        self.told(turned(read_term("([x] [y] x) y"), ""), "[a] y")
        self.told(turned(read_term("[y] ([x] [y] x y) y"), "b"), "[a] [b] a b")
        self.told(turned(read_term("[z] ([x] [y] x) (y z)"), "b"), "[a] [b] y a")
        self.told(turned(read_term("([x] [y] [z] x) ([w] w y z)"), ""), "[a] [b] [c] c y z")
        self.told(turned(read_term("([x] [x] x) y"), ""), "[a] a")

    def test_only_the_redex_at_the_address(self):
        term = read_term("([x] ([y] y y) x) (([z] z) x)")
        self.told(turned(term, ""), "([a] a a) (([a] a) x)")
        self.told(turned(term, "fb"), "([a] a a) (([a] a) x)")
        self.told(turned(term, "g"), "([a] ([b] b b) a) x")
        self.told(turned(read_term(OMEGA), ""), "([a] a a) ([a] a a)")

    def test_all_small_trees(self):
        for tree in SMALL + list(samples.ending()):
            term = trees.built(tree)
            for address, _ in labelled.redexes_of(labelled.labelled(tree)):
                told = turned(term, address)
                wanted = labelled.plain(labelled.turned_at(labelled.labelled(tree), address))
                self.assertEqual(told, samples.term_of(wanted), (tree, address))
                self.assertEqual(str(told), trees.text_of(trees.told(wanted)))

    def test_what_comes_of_a_turn_is_a_term_as_others(self):
        told = turned(read_term("[w] ([x] [y] x y v) (w w)"), "b")
        other = read_term("[p] [q] p p q v")
        self.assertEqual(told, other)
        self.assertEqual((len(told), told.free(), told.is_closed()), (9, ["v"], False))
        self.assertEqual([kind_at(told, address) for address in ("", "bb", "bbg")], ["fun", "put", "name"])
        self.told(part_at(told, "b"), "[b] a a b v")
        self.assertEqual(read_term(str(told)), told)

    def test_no_redex_is_refused(self):
        for tree in trees.trees_to(4, ("a",)) + [trees.parsed("([x] x y) ([z] z) (([x] x) y)")]:
            term = trees.built(tree)
            for address, _ in trees.parts_of(tree):
                if address not in redexes(term):
                    self.refused(NoRedex, turned, term, address)
                    self.refused(NoRedex, all_turned, term, [address])

    def test_no_address_is_refused_first(self):
        term = read_term("([x] x y) z")
        for thing in samples.NO_TEXTS + ["a", "B", " ", "bb", "fbfb", "g ", "ff", "fg", "gf", "b", "fbff", "\n", [""]]:
            self.refused(NoAddress, turned, term, thing)
            self.refused(NoAddress, all_turned, term, [thing])
        self.assertEqual(str(term), "([a] a y) z")
        self.told(turned(term, ""), "z y")


class TestAllTurned(PlainCase):
    def test_no_addresses(self):
        for text in ["x", "([x] x) y", OMEGA]:
            self.assertEqual(all_turned(read_term(text), []), read_term(text))

    def test_each_of_them_and_of_what_comes_of_them_just_once(self):
        term = read_term("([x] x x) (([z] z z) ([w] w))")
        self.told(all_turned(term, ["", "g"]), "([a] a) ([a] a) (([a] a) ([a] a))")
        self.told(all_turned(term, [""]), "([a] a a) ([a] a) (([a] a a) ([a] a))")
        self.told(all_turned(read_term("([x] x y) ([z] z)"), [""]), "([a] a) y")
        self.told(all_turned(read_term("([x] ([y] y x) x) (([z] z) w)"), ["", "fb", "g"]), "w w")
        self.told(all_turned(read_term("([x] ([y] y x) x) (([z] z) w)"), ["fb", "g"]), "([a] a a) w")
        self.told(all_turned(read_term("([x] [y] x) (([z] z) y) (([z] z z) w)"), ["f", "fg", "g"]), "([a] y) (w w)")
        self.told(all_turned(read_term(OMEGA), [""]), "([a] a a) ([a] a a)")

    def test_what_nobody_names_goes(self):
        self.told(all_turned(read_term("([x] y) (([z] z z) w)"), ["g", ""]), "y")

    def test_some_twice_and_in_any_order(self):
        term = read_term("([x] ([y] y x) x) (([z] z) (w w))")
        for addresses in [["", "fb", "g"], ["g", "fb", ""], ["fb", "", "g"], ["", "", "g", "fb", "g"], ["g"] * 98 +
                          ["", "fb"] * 51]:
            kept = list(addresses)
            self.told(all_turned(term, addresses), "w w (w w)")
            self.assertEqual(addresses, kept)

    def test_as_turned_one_behind_the_other_in_any_order(self):
        chance = random.Random(1)
        for tree in [tree for tree in SMALL + list(samples.ending()) if redexes(trees.built(tree))]:
            for _ in range(2):
                self.compare(tree, chance)

    def compare(self, tree, chance):
        start = labelled.labelled(tree)
        picked = [pair for pair in labelled.redexes_of(start) if chance.random() < 0.7]
        addresses = [address for address, _ in picked] * 2
        chance.shuffle(addresses)
        wanted = labelled.turned_of(start, [degree for _, degree in picked], chance.choice)
        self.assertEqual(all_turned(trees.built(tree), addresses), samples.term_of(wanted), (tree, addresses))

    def test_the_first_that_is_no_redex_is_refused(self):
        term = read_term("([x] x y) (([z] z) y)")
        for addresses, kind in [(["f"], NoRedex), (["b"], NoAddress), (["", "f", "b"], NoRedex),
                                (["g", "b", "f"], NoAddress), (["", "g", None, "f"], NoAddress),
                                (["", "fb", None], NoRedex), (["", True], NoAddress), ([0, "f"], NoAddress),
                                (["", ["g"]], NoAddress), (["", "gg", ["g"]], NoRedex), ([["f"], "f"], NoAddress),
                                (["", "", "g", "g", "gf"], NoRedex), (["", "g", b"g"], NoAddress)]:
            kept = list(addresses)
            self.refused(kind, all_turned, term, addresses)
            self.assertEqual(addresses, kept)
        self.assertEqual(redexes(term), ["", "g"])
        self.told(all_turned(term, ["", "g"]), "y y")

    def test_an_address_that_comes_only_of_a_turn_is_refused(self):
        self.refused(NoRedex, all_turned, read_term("([x] [y] y) z w"), ["f", ""])
        self.refused(NoAddress, all_turned, read_term("([x] x) (z (([y] y) w))"), ["", "gb"])


class TestNormal(PlainCase):
    def test_worths_and_turns(self):
        for text, worth, turns in [("x", "x", 0), ("[x] x y", "[a] a y", 0), ("([x] x) y", "y", 1),
                                   ("([x] x x) (([y] y) z)", "z z", 3), ("([x] y) (([z] z) w)", "y", 1),
                                   ("([x] y) (([z] z z) ([z] z z))", "y", 1),
                                   ("([x] [y] x) y", "[a] y", 1), ("[z] ([x] x x) ([y] y) z", "[a] a", 3),
                                   ("([x] x ([y] y)) ([z] z z)", "[a] a", 3),
                                   ("([f] f (f x)) ([y] ([z] z z) y)", "x x (x x)", 7)]:
            told = normal(read_term(text))
            self.assertIs(type(told), tuple)
            self.assertEqual((str(told[0]), told[1]), (worth, turns), text)
            self.assertEqual((type(told[0]), type(told[1])), (Term, int))

    def test_as_by_leftmost_turns(self):
        for tree in samples.ending():
            term = trees.built(tree)
            run = labelled.leftmost_run(labelled.labelled(tree), 40)
            self.assertEqual(normal(term), (samples.term_of(run[-1]), len(run) - 1), tree)
            self.assertEqual(redexes(normal(term)[0]), [])

    def test_most(self):
        for tree in samples.ending():
            term = trees.built(tree)
            turns = normal(term)[1]
            self.assertEqual(normal(term, most=turns), normal(term, most=2000))
            for most in {0, turns // 2, turns - 1}:
                if 0 <= most < turns:
                    self.too_long(most, normal, term)

    def test_endless_terms(self):
        for text in samples.ENDLESS:
            self.too_long(60, normal, read_term(text))
        self.assertEqual(self.refused(TooLong, normal, read_term(OMEGA)).turns, 400)
        self.too_long(2000, normal, read_term(OMEGA))

    def test_the_same_again(self):
        term = read_term("([f] f (f x)) ([y] ([z] z z) y)")
        text = str(term)
        self.assertEqual(normal(term), normal(term))
        self.too_long(6, normal, term)
        self.assertEqual((str(term), normal(term)[1], redexes(term)), (text, 7, ["", "gb"]))

    def test_a_worth_of_2000_parts_behind_many_turns(self):
        term = samples.put_to(samples.numeral(9), "[a] y a a", "z")
        worth, turns = normal(term, most=2000)
        self.assertEqual((len(worth), turns, worth.free()), (2045, 513, ["y", "z"]))
        self.too_long(512, normal, term)

    def test_1685_turns(self):
        times = samples.put_to("[m] [n] [f] m (n f)", samples.numeral(40), samples.numeral(40))
        term = samples.put_to(times, "[a] a", "x")
        self.assertEqual(normal(term, most=2000), (name("x"), 1685))

    def test_deep_terms(self):
        self.assertEqual(normal(samples.deep_brackets(150)), (name("y"), 150))
        deep = put_in(samples.deep_functions(149), "x", name("y"))
        self.assertEqual(normal(put(fun("x", name("x")), deep)), (deep, 1))
        self.assertEqual(all_turned(samples.deep_brackets(400), ["fb" * many for many in range(400)]), name("y"))


if __name__ == "__main__":
    unittest.main()
