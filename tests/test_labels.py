"""Points 2, 3, 14 and 15: families of turns."""

import random
import unittest

from fanweave import labels
from fanweave.errors import NoAddress, NoRedex, TooLong
from fanweave.labels import LabelledRun, families, rounds, run_families
from fanweave.plain import all_turned, normal, redex_place, redexes, turned
from fanweave.terms import fun, name, put
from fanweave.texts import read_term
from tests import labelled, samples, trees
from tests.cases import RefusalCase

OMEGA = "([x] x x) ([x] x x)"
DOUBLED = "([x] x x) (([z] z) ([w] w))"
# The list of families, then that of rounds.
TOLD = [
    ("x", [], []),
    ("[x] x ([y] y x)", [], []),
    ("([x] x) y", [("", 0)], [[""]]),
    ("[z] ([x] y) z", [("b", 0)], [["b"]]),
    ("([x] y) (([z] z) w)", [("", 0)], [[""]]),
    # A redex that is doubled is of one family, at both of its places.
    ("([x] y x x) (([z] z) w)", [("", 0), ("fg", 1), ("g", 1)], [[""], ["fg", "g"]]),
    ("([x] y x (z x)) (([z] z) w)", [("", 0), ("fg", 1), ("gg", 1)], [[""], ["fg", "gg"]]),
    # Alike redexes that stand at two places from the first are of two.
    ("y (([z] z) w) (([z] z) w)", [("fg", 0), ("g", 1)], [["fg"], ["g"]]),
    # A function that is doubled and put to two things: its turns came of two puts.
    ("([x] y (x v) (x w)) ([z] z)", [("", 0), ("fg", 1), ("g", 2)], [[""], ["fg"], ["g"]]),
    # One put that is doubled: the turns that come of it are of one family.
    ("([x] y x x) (([k] k w) ([z] z))", [("", 0), ("fg", 1), ("fg", 2), ("g", 1), ("g", 2)],
     [[""], ["fg", "g"], ["fg", "g"]]),
    # Within a function that waits as well.
    ("([x] y (x v) (x w)) ([u] ([z] z z) v)",
     [("", 0), ("fg", 1), ("fg", 2), ("g", 3), ("g", 2)], [[""], ["fg"], ["fg", "gfb"], ["g"]]),
    # The body is the function's name itself, once and again.
    ("([x] x) ([y] y) z", [("f", 0), ("", 1)], [["f"], [""]]),
    ("([x] x) (([y] y) ([z] z)) w", [("f", 0), ("f", 1), ("", 2)], [["f"], ["f"], [""]]),
    (DOUBLED, [("", 0), ("f", 1), ("", 2), ("", 1)], [[""], ["f", "g"], [""]])]


class TestInterface(RefusalCase):
    def test_defined_in_the_file(self):
        for word in ["families", "rounds", "run_families"]:
            self.assertEqual(getattr(labels, word).__module__, "fanweave.labels")
        term = read_term("([x] x) y")
        self.assertEqual(families(most=1, term=term), [("", 0)])
        self.assertEqual(rounds(most=1, term=term), [[""]])
        self.assertEqual(run_families(addresses=[""], term=term), [0])
        self.assertRaises(TypeError, families, term, 1)
        self.assertRaises(TypeError, rounds, term, 1)

    def test_kinds_of_values(self):
        term = read_term(DOUBLED)
        self.assertEqual([(type(row), type(row[0]), type(row[1])) for row in families(term)], [(tuple, str, int)] * 4)
        self.assertEqual([type(row) for row in rounds(term)], [list] * 3)

    def test_lists_are_the_askers_own(self):
        term = read_term("([x] y x x) (([k] k w) ([z] z))")
        told = rounds(term)
        told[1].append("b")
        told[2].clear()
        told.pop(0)
        self.assertEqual(rounds(term), [[""], ["fg", "g"], ["fg", "g"]])
        again = rounds(term)
        self.assertEqual(len({id(row) for row in again}), 3)
        numbers = families(term)
        numbers.clear()
        self.assertEqual(len(families(term)), 5)
        addresses = ["", "g"]
        self.assertEqual(run_families(term, addresses), [0, 1])
        self.assertEqual(addresses, ["", "g"])


class TestFamilies(RefusalCase):
    def test_told_families(self):
        for text, wanted, _ in TOLD:
            self.assertEqual(families(read_term(text)), wanted, text)

    def test_as_by_labels_that_hold_degrees(self):
        shared = 0
        for tree in samples.ending():
            wanted = labelled.families_of(labelled.labelled(tree), 40)
            self.assertEqual(families(trees.built(tree)), wanted, tree)
            shared += len({number for _, number in wanted}) < len(wanted)
        self.assertGreater(shared, 50)

    def test_each_place_has_a_label_of_its_own(self):
        shared = put(fun("z", name("z")), name("w"))
        term = put(put(name("y"), shared), shared)
        self.assertEqual(families(term), [("fg", 0), ("g", 1)])
        self.assertEqual(rounds(term), [["fg"], ["g"]])
        self.assertEqual(run_families(term, ["g", "fg"]), [0, 1])

    def test_most(self):
        for text, wanted, _ in TOLD:
            term = read_term(text)
            self.assertEqual(families(term, most=len(wanted)), wanted)
            for most in range(len(wanted)):
                self.too_long(most, families, term)
            self.assertEqual(families(term), wanted)

    def test_endless_terms(self):
        for text in samples.ENDLESS:
            self.too_long(60, families, read_term(text))
        self.assertEqual(self.refused(TooLong, families, read_term(OMEGA)).turns, 400)


class TestRounds(RefusalCase):
    def test_told_rounds(self):
        for text, _, wanted in TOLD:
            self.assertEqual(rounds(read_term(text)), wanted, text)

    def test_as_by_labels_that_hold_degrees(self):
        chance = random.Random(2)
        for tree in samples.ending():
            wanted, worth = labelled.rounds_of(labelled.labelled(tree), 40, chance.choice)
            term = trees.built(tree)
            self.assertEqual(rounds(term), wanted, tree)
            self.assertEqual(samples.term_of(worth), normal(term)[0])

    def test_lead_to_the_worth_by_as_many_as_families(self):
        for tree in samples.ending():
            term = trees.built(tree)
            told = rounds(term)
            self.assertEqual(len(told), len({number for _, number in families(term)}))
            for row in told:
                self.assertEqual(row, sorted(row))
                self.assertEqual(row[0], redexes(term)[0])
                term = all_turned(term, row)
            self.assertEqual(redexes(term), [])

    def test_most(self):
        for tree in samples.ending()[::3]:
            term = trees.built(tree)
            told = rounds(term)
            self.assertEqual(rounds(term, most=len(told)), told)
            for most in range(len(told)):
                self.too_long(most, rounds, term)

    def test_most_counts_lists_and_not_turns(self):
        term = read_term("([x] y x x) (([k] k w) ([z] z))")
        self.assertEqual(rounds(term, most=3), [[""], ["fg", "g"], ["fg", "g"]])
        self.too_long(2, rounds, term)
        self.too_long(4, families, term)

    def test_endless_terms(self):
        for text in samples.ENDLESS:
            self.too_long(60, rounds, read_term(text))
        self.assertEqual(self.refused(TooLong, rounds, read_term(OMEGA)).turns, 400)


class TestRunFamilies(RefusalCase):
    def test_no_addresses(self):
        for text in ["x", OMEGA]:
            self.assertEqual(run_families(read_term(text), []), [])

    def test_told_numbers(self):
        for text, addresses, wanted in [
                (DOUBLED, ["", "f", "", ""], [0, 1, 2, 1]),
                (DOUBLED, ["g", "", ""], [0, 1, 2]),
                (DOUBLED, ["", "g", "f", ""], [0, 1, 1, 2]),
                ("([x] y x x) (([z] z) w)", ["", "g", "fg"], [0, 1, 1]),
                ("([x] y x x) (([z] z) w)", ["g", ""], [0, 1]),
                ("([x] y (x v) (x w)) ([u] ([z] z z) v)", ["", "gfb", "fg", "g", "fg"], [0, 1, 2, 3, 1]),
                (OMEGA, [""] * 7, [0, 1, 2, 3, 4, 5, 6]),
                ("([x] y) (([x] x x) ([x] x x))", ["g", "g", ""], [0, 1, 2])]:
            self.assertEqual(run_families(read_term(text), addresses), wanted, text)

    def test_of_the_leftmost_run_as_families(self):
        for tree in samples.ending():
            term = trees.built(tree)
            told = families(term)
            self.assertEqual(run_families(term, [address for address, _ in told]), [number for _, number in told])

    def test_whatever_turns_are_of_as_many_families_as_rounds_or_more(self):
        chance = random.Random(3)
        runs = 0
        for tree in samples.ending():
            addresses, numbers = self.run_by_chance(labelled.labelled(tree), chance)
            if addresses is not None:
                term = trees.built(tree)
                told = run_families(term, addresses)
                self.assertEqual(told, numbers, (tree, addresses))
                self.assertGreaterEqual(len(set(told)), len(rounds(term)))
                runs += 1
        self.assertGreater(runs, 500)

    def run_by_chance(self, tree, chance):
        addresses, degrees = [], []
        while labelled.redexes_of(tree):
            if len(addresses) >= 60 or trees.size_of(tree) > 300:
                return None, None
            address, degree = chance.choice(labelled.redexes_of(tree))
            addresses.append(address)
            degrees.append(degree)
            tree = labelled.turned_at(tree, address)
        return addresses, labelled.numbered(degrees)

    def test_rounds_turned_one_behind_the_other_are_one_family_each(self):
        for tree in samples.ending()[::2]:
            term = trees.built(tree)
            told = rounds(term)
            addresses, wanted = [], []
            for number, row in enumerate(told):
                # The last ones first: so a turn moves none of the others.
                for address in reversed(row):
                    addresses.append(address)
                    wanted.append(number)
            self.assertEqual(run_families(term, addresses), wanted, tree)

    def test_the_first_that_is_no_redex_is_refused(self):
        term = read_term("([x] x y) (([z] z) w)")
        for addresses, kind in [(["f"], NoRedex), (["b"], NoAddress), ([None], NoAddress), (["", "f", "b"], NoAddress),
                                (["", "g"], NoRedex), (["", "gf"], NoAddress), (["", "f", "f"], NoRedex),
                                (["g", "g"], NoRedex), (["g", "gf"], NoAddress), (["", True], NoAddress),
                                (["", "f", ["f"]], NoAddress), (["", "fg", ["f"]], NoRedex),
                                ([0, "f"], NoAddress), (["", None, "g"], NoAddress),
                                ([["g"], "f"], NoAddress), (["g", "", ""], NoRedex), (["g", "", "fb"], NoAddress)]:
            kept = list(addresses)
            self.refused(kind, run_families, term, addresses)
            self.assertEqual(addresses, kept)
        for thing in samples.NO_TEXTS:
            self.refused(NoAddress, run_families, term, ["", thing, "f"])
        self.assertEqual(run_families(term, ["", "f"]), [0, 1])
        self.assertEqual(str(term), "([a] a y) (([a] a) w)")


class TestLabels(RefusalCase):
    """The labels themselves, letter by letter, whatever the letters are."""

    def test_of_what_comes_of_turns_one_behind_the_other(self):
        for tree in samples.ending():
            run = LabelledRun(trees.built(tree))
            for tree_then in labelled.leftmost_run(labelled.labelled(tree), 40)[1:6]:
                run.turn([run.leftmost()])
                self.compare(run, tree_then)

    def test_of_what_comes_of_turns_at_once(self):
        chance = random.Random(4)
        for tree in [tree for tree in samples.ending() if len(redexes(trees.built(tree))) > 1]:
            start = labelled.labelled(tree)
            picked = [pair for pair in labelled.redexes_of(start) if chance.random() < 0.8]
            run = LabelledRun(trees.built(tree))
            run.turn([redex_place(run.term, address) for address, _ in picked])
            self.compare(run, labelled.turned_of(start, [degree for _, degree in picked], chance.choice))

    def test_where_the_body_is_the_name_or_another_redex(self):
        for text, places in [("([x] x) y", [0]), ("([x] ([y] y) x) ([z] z)", [0, 2]), ("([x] ([y] x) z) w", [0, 2]),
                             ("([x] x) (([y] y) (([z] z) w))", [0, 3, 6])]:
            start = labelled.labelled(trees.parsed(text))
            run = LabelledRun(read_term(text))
            run.turn(places)
            degrees = [degree for _, degree in labelled.redexes_of(start)]
            self.compare(run, labelled.turned_of(start, degrees, max))

    def compare(self, run, tree):
        self.assertEqual(run.term, samples.term_of(tree))
        rows = [part[-1] for _, part in trees.parts_of(tree)]
        self.assertEqual(self.letters_anew(run.labels), self.letters_anew(rows))

    def letters_anew(self, rows):
        """The rows with numbers from 0 on for letters, as they first come."""
        known = {}
        return [[known.setdefault(letter, len(known)) for letter in row] for row in rows]


class TestBounds(RefusalCase):
    def test_labels_that_grow(self):
        # Each turn makes the label of the next function longer by two letters.
        self.too_long(1400, families, read_term(OMEGA))
        self.too_long(1400, rounds, read_term(OMEGA))
        self.assertEqual(run_families(read_term(OMEGA), [""] * 200), list(range(200)))

    def test_a_body_that_is_a_redex_within_a_redex(self):
        self.assertEqual(families(samples.deep_brackets(150)), [("", number) for number in range(150)])
        self.assertEqual(rounds(samples.deep_brackets(150)), [[""]] * 150)

    def test_many_turns_of_few_families(self):
        term = samples.put_to(samples.numeral(9), "[a] y a a", "z")
        told = families(term, most=513)
        self.assertEqual((len(told), len({number for _, number in told})), (513, 11))
        self.too_long(512, families, term)
        self.assertEqual([len(row) for row in rounds(term, most=11)], [1, 1, 1, 2, 4, 8, 16, 32, 64, 128, 256])
        self.too_long(10, rounds, term)

    def test_1685_turns(self):
        times = samples.put_to("[m] [n] [f] m (n f)", samples.numeral(40), samples.numeral(40))
        term = samples.put_to(times, "[a] a", "x")
        told = families(term, most=2000)
        self.assertEqual((len(told), len(rounds(term))), (1685, len({number for _, number in told})))

    def test_a_hundred_thousand_parts(self):
        term = put(fun("v", put(name("v"), name("v"))), put(fun("x", name("y")), samples.large()))
        self.assertEqual(families(term), [("", 0), ("f", 1), ("g", 1)])
        self.assertEqual(rounds(term), [[""], ["f", "g"]])
        self.assertEqual(run_families(term, ["g", ""]), [0, 1])
        self.assertEqual(turned(turned(term, "g"), ""), put(name("y"), name("y")))


if __name__ == "__main__":
    unittest.main()
