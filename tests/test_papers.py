"""Points 2, 3, 4 and 22: papers of runs, their judge, and races."""

import random
import unittest

from fanweave import papers
from fanweave.errors import TooLong
from fanweave.labels import rounds
from fanweave.machines import Namer, Needer, Placer, Valuer
from fanweave.papers import is_paper, paper_of, race
from fanweave.plain import all_turned, normal, redexes
from fanweave.sharer import Sharer
from fanweave.terms import Term, name, put
from fanweave.texts import read_term
from tests import samples, trees
from tests.cases import RefusalCase

# Its rounds: [""], ["fg", "gfb"] and so on: rows of one and of two addresses.
WAITING = "([x] y (x v) (x w)) ([u] ([z] z z) v)"
DOUBLED = "([x] x x) (([y] y) ([z] z))"
OMEGA = "([x] x x) ([x] x x)"
WORDS = ["placer", "namer", "needer", "valuer", "sharer"]
# Terms with the turns of the five.
RACES = [
    ("x", [0, 0, 0, 0, 0]),
    ("([x] x) y", [1, 1, 1, 1, 1]),
    (DOUBLED, [4, 4, 3, 3, 3]),
    ("([x] y x x) ([z] ([w] w) z)", [3, 3, 3, 3, 2]),
    ("([x] y x x) (([v] v) ([z] ([w] w) z))", [5, 5, 4, 4, 3]),
    ("([x] y) (([w] w) z)", [1, 1, 1, 2, 1]),
    # What doesn't end by value; what doesn't end at all.
    ("([x] y) (([x] x x) ([x] x x))", [1, 1, 1, None, 1]),
    ("([x] [z] x) y (([x] x x) ([x] x x))", [2, 2, 2, None, 2]),
    (OMEGA, [None] * 5)]


class TestInterface(RefusalCase):
    def test_defined_in_the_file(self):
        for word in ["paper_of", "is_paper", "race"]:
            self.assertEqual(getattr(papers, word).__module__, "fanweave.papers")
        term = read_term(DOUBLED)
        self.assertIs(is_paper(paper=paper_of(most=5, term=term), term=term), True)
        self.assertEqual(race(moves=100, most=5, term=term), dict(zip(WORDS, [4, 4, 3, 3, 3])))
        self.assertRaises(TypeError, paper_of, term, 5)
        self.assertRaises(TypeError, race, term, 5)

    def test_kinds_of_values(self):
        paper = paper_of(read_term(DOUBLED))
        self.assertEqual((type(paper), len(paper), type(paper[0]), type(paper[1])), (tuple, 2, list, Term))
        self.assertEqual({type(row) for row in paper[0]}, {list})
        self.assertEqual({type(address) for row in paper[0] for address in row}, {str})
        self.assertIs(type(race(name("x"))), dict)

    def test_what_is_told_is_the_askers_own(self):
        term = read_term(DOUBLED)
        paper = paper_of(term)
        paper[0][1].clear()
        paper[0].pop()
        self.assertIs(is_paper(term, paper), False)
        self.assertEqual(paper_of(term)[0], [[""], ["f", "g"], [""]])
        self.assertEqual(len({id(row) for row in paper_of(term)[0]}), 3)
        told = race(term)
        told.clear()
        self.assertEqual(list(race(term)), WORDS)

    def test_what_is_handed_in_is_not_changed(self):
        term = read_term(WAITING)
        rows, worth = paper_of(term)
        turned_about = [row[::-1] for row in rows]
        kept = [list(row) for row in turned_about]
        self.assertIs(is_paper(term, (turned_about, worth)), True)
        self.assertEqual(turned_about, kept)


class TestPaperOf(RefusalCase):
    def test_told_papers(self):
        for text, rows, worth in [("x", [], "x"), ("[x] x y", [], "[x] x y"), ("([x] x) y", [[""]], "y"),
                                  (DOUBLED, [[""], ["f", "g"], [""]], "[a] a"),
                                  (WAITING, [[""], ["fg"], ["fg", "gfb"], ["g"]], "y (v v) (v v)")]:
            self.assertEqual(paper_of(read_term(text)), (rows, read_term(worth)), text)

    def test_rows_as_rounds_and_the_worth(self):
        for tree in samples.ending()[::2]:
            term = trees.built(tree)
            rows, worth = paper_of(term)
            self.assertEqual((rows, worth), (rounds(term), normal(term)[0]))

    def test_most(self):
        term = read_term(WAITING)
        self.assertEqual(paper_of(term, most=4), paper_of(term))
        for most in range(4):
            self.too_long(most, paper_of, term)
        for text in samples.ENDLESS:
            self.too_long(40, paper_of, read_term(text))
        self.assertEqual(self.refused(TooLong, paper_of, read_term(OMEGA)).turns, 400)


class TestIsPaper(RefusalCase):
    def test_papers_are_let_by(self):
        for tree in samples.ending()[::2]:
            term = trees.built(tree)
            rows, worth = paper_of(term)
            self.assertIs(is_paper(term, (rows, worth)), True)
            self.assertIs(is_paper(term, ([row[::-1] for row in rows], worth)), True)

    def test_of_the_sharer(self):
        for tree in samples.ending()[::2]:
            term = trees.built(tree)
            machine = Sharer(term)
            machine.run()
            self.assertIs(is_paper(term, (machine.trail(), machine.worth())), True)

    def test_lists_in_any_order(self):
        term = samples.put_to(samples.numeral(4), "[a] y a a", "z")
        rows, worth = paper_of(term)
        chance = random.Random(1)
        for _ in range(20):
            self.assertIs(is_paper(term, ([chance.sample(row, len(row)) for row in rows], worth)), True)

    def test_rows_that_are_not_the_rounds(self):
        term = read_term(WAITING)
        rows, worth = paper_of(term)
        self.assertEqual(rows, [[""], ["fg"], ["fg", "gfb"], ["g"]])
        for wrong in [[], rows[:1], rows[:3], rows[1:], rows[:2] + rows[3:], rows + [[]], rows + [[""]], [[]] + rows,
                      rows[:3] + [[]] + rows[3:], rows[::-1], rows + rows, rows[:1] + rows, rows + rows[-1:],
                      # One address told twice, left out, one more, another one.
                      [[""], ["fg"], ["fg", "gfb", "fg"], ["g"]], [[""], ["fg"], ["fg"], ["g"]],
                      [["", ""], ["fg"], ["fg", "gfb"], ["g"]], [[""], ["fg"], ["gfb"], ["g"]],
                      [[""], ["fg", "g"], ["fg", "gfb"], ["g"]], [[""], ["fg"], ["fg", "g"], ["g"]],
                      [[""], ["fg"], ["fg", "gfb"], ["gf"]], [[""], ["fg"], ["fg", "gfb"], ["b"]],
                      [[""], ["fg"], ["fg", "gfb"], ["x"]], [[""], ["fg"], ["fg", "gfb"], ["g "]],
                      # One list cut in two; two lists as one; another order.
                      [[""], ["fg"], ["fg"], ["gfb"], ["g"]], [[""], ["fg"], ["gfb"], ["fg"], ["g"]],
                      [[""], ["fg", "fg", "gfb"], ["g"]], [[""], ["g"], ["fg", "gfb"], ["g"]],
                      [["fg"], [""], ["fg", "gfb"], ["g"]]]:
            self.assertIs(is_paper(term, (wrong, worth)), False, wrong)

    def test_other_ways_to_the_worth_are_none(self):
        # Each redex turned by itself; all redexes at once.
        for tree in samples.ending()[::6]:
            term = trees.built(tree)
            rows, worth = paper_of(term)
            for choose in [lambda found: found[-1:], lambda found: found, lambda found: found[:1]]:
                told, now = [], term
                while redexes(now) and len(told) < 50:
                    told.append(choose(redexes(now)))
                    now = all_turned(now, told[-1])
                self.assertIs(is_paper(term, (told, now)), told == rows)

    def test_another_last_term(self):
        for text in [WAITING, DOUBLED, "([x] x) y", "x"]:
            term = read_term(text)
            rows, worth = paper_of(term)
            now = term
            for number, row in enumerate(rows):
                self.assertIs(is_paper(term, (rows, now)), False)
                # The term of an earlier moment, with the rows up to there and with all.
                self.assertIs(is_paper(term, (rows[:number], now)), False)
                now = all_turned(now, row)
            self.assertEqual(now, worth)
            for wrong in [put(worth, worth), name("q"), read_term("[a] a a"), put(name("x"), worth)]:
                self.assertIs(is_paper(term, (rows, wrong)), False)

    def test_another_term(self):
        one, other = read_term(DOUBLED), read_term(WAITING)
        self.assertIs(is_paper(one, paper_of(other)), False)
        self.assertIs(is_paper(other, paper_of(one)), False)
        self.assertIs(is_paper(read_term("([x] x) z"), paper_of(read_term("([x] x) y"))), False)
        self.assertIs(is_paper(read_term("([p] p p) (([q] q) ([r] r))"), paper_of(one)), True)

    def test_endless_terms_have_none(self):
        for rows in [[], [[]], [[""]], [[""]] * 100]:
            self.assertIs(is_paper(read_term(OMEGA), (rows, read_term(OMEGA))), False)

    def test_of_anything(self):
        term = read_term(DOUBLED)
        rows, worth = paper_of(term)
        things = samples.NO_TEXTS + samples.NO_WHOLE_NUMBERS + ["x", (rows,), (rows, worth, worth), [rows, worth]]
        things += [(tuple(rows), worth), ([tuple(row) for row in rows], worth), (rows, str(worth)), (rows, None)]
        things += [(worth, rows), ({}, worth), (None, worth), ("", worth), (rows, samples.Agreeing())]
        things += [(["", "fg", ""], worth), (samples.Agreeing(), worth), samples.Agreeing()]
        for thing in samples.NO_TEXTS:
            things += [([[thing], ["f", "g"], [""]], worth), ([[""], ["f", thing], [""]], worth),
                       ([[""], thing, [""]], worth), ([[""], ["f", "g"], [""], [thing]], worth), (rows, thing)]
        for thing in things:
            if not (isinstance(thing, tuple) and len(thing) == 2 and type(thing[1]) is Term and thing[1] == worth
                    and thing[0] == rows):
                self.assertIs(is_paper(term, thing), False, repr(thing))
        self.assertIs(is_paper(term, (rows, worth)), True)


class TestRace(RefusalCase):
    def test_told_races(self):
        for text, counts in RACES:
            told = race(read_term(text))
            self.assertEqual(told, dict(zip(WORDS, counts)), text)
            self.assertEqual(list(told), WORDS)

    def test_as_the_machines(self):
        for tree in samples.ending()[::4]:
            term = trees.built(tree)
            told = race(term, most=60)
            for word, kind in zip(WORDS, [Placer, Namer, Needer, Valuer, Sharer]):
                machine = kind(term)
                try:
                    machine.run(most=60)
                    self.assertEqual(told[word], machine.turns)
                except TooLong:
                    self.assertIsNone(told[word])

    def test_most(self):
        term = read_term(DOUBLED)
        for most in range(5):
            wanted = [turns if turns <= most else None for turns in [4, 4, 3, 3, 3]]
            self.assertEqual(list(race(term, most=most).values()), wanted)

    def test_moves(self):
        term = read_term(DOUBLED)
        machine = Sharer(term)
        machine.run()
        self.assertGreater(machine.moves, 0)
        for moves in range(machine.moves + 2):
            told = race(term, moves=moves)
            self.assertEqual(list(told.values()), [4, 4, 3, 3, 3 if moves >= machine.moves else None])

    def test_left_out(self):
        row = name("x")
        for _ in range(400):
            row = put(read_term("[x] x"), row)
        self.assertEqual(list(race(row).values()), [400] * 5)
        self.assertEqual(list(race(put(read_term("[x] x"), row)).values()), [None] * 5)

    def test_by_numbers(self):
        # Turns by place, by name, by need, by value, and shared ones.
        power = samples.put_to("[m] [n] n m", samples.numeral(2), samples.numeral(6), "[a] a", "x")
        told = race(power)
        self.assertLess(told["sharer"], told["needer"])
        self.assertLess(told["needer"], told["namer"])
        self.assertEqual(told["namer"], told["placer"])


if __name__ == "__main__":
    unittest.main()
