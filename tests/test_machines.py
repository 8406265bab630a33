"""Points 2, 3, 4, 12 and 13: the machines by place, by name, by need and by value."""

import unittest

from fanweave import machines
from fanweave.errors import NoBack, NotDone, TooLong
from fanweave.machines import Namer, Needer, Placer, Valuer
from fanweave.plain import normal, redexes
from fanweave.terms import Term, fun, kind_at, name, part_at, put, put_in
from fanweave.texts import read_term
from tests import heads, samples, trees
from tests.cases import RefusalCase

CLASSES = [Placer, Namer, Needer, Valuer]
WAYS = {Placer: "name", Namer: "name", Needer: "need", Valuer: "value"}
FOUR_TURNS = "([x] x x) (([y] y) ([z] z))"
# A term with its worth and the turns of the four, None where a machine does not end.
COUNTS = [
    ("x", "x", 0, 0, 0, 0),
    ("[x] x ([y] y)", "[a] a ([b] b)", 0, 0, 0, 0),
    ("([x] x) y", "y", 1, 1, 1, 1),
    ("([x] x) x", "x", 1, 1, 1, 1),
    # An argument that nobody names is taken to a head by value alone.
    ("([x] y) (([w] w) z)", "y", 1, 1, 1, 2),
    # One named once; one named twice.
    ("([x] y x) (([w] w) z)", "y z", 2, 2, 2, 2),
    ("([x] y x x) (([w] w) z)", "y z z", 3, 3, 2, 2),
    (FOUR_TURNS, "[a] a", 4, 4, 3, 3),
    # What is within a kept function's body is gone through anew; what leads to the function is not.
    ("([x] y x x) ([z] ([w] w) z)", "y ([a] a) ([a] a)", 3, 3, 3, 3),
    ("([x] y x x) (([v] v) ([z] ([w] w) z))", "y ([a] a) ([a] a)", 5, 5, 4, 4),
    # Arguments of a kept name are something handed, too: their heads are kept, the bodies of these are not.
    ("([x] y x x) (z (([w] w) u))", "y (z u) (z u)", 3, 3, 2, 2),
    ("([x] y x x) (z (([w] w) ([v] ([u] u) v)))", "y (z ([a] a)) (z ([a] a))", 5, 5, 4, 4),
    ("([x] y x x) (z (u (([w] w) v)))", "y (z (u v)) (z (u v))", 3, 3, 2, 2),
    # What was handed outside of a kept function's body is kept, what is handed within it is handed anew.
    ("([k] ([x] y x x) ([z] z k)) (([w] w) v)", "y ([a] a v) ([a] a v)", 4, 4, 3, 3),
    ("([x] y x x) ([z] ([k] z k k) (([w] w) v))", "y ([a] a v v) ([a] a v v)", 7, 7, 5, 5),
    # A kept name takes further arguments without changing what is kept.
    ("([x] y (x a) (x b) x) (([w] w) z c)", "y (z c a) (z c b) (z c)", 4, 4, 2, 2),
    # A name of a name of an argument: the one head is kept.
    ("([x] ([k] y k x) x) (([w] w) z)", "y z z", 4, 4, 3, 3),
    # By value arguments of a name are taken to heads at once, also where nobody reads them.
    ("([x] y) (z (([w] w) v))", "y", 1, 1, 1, 2),
    ("([x] y) ([k] ([w] w) k)", "y", 1, 1, 1, 1),
    ("z ([k] ([w] w) k) (([w] w) v)", "z ([a] a) v", 2, 2, 2, 2),
    ("([x] y) (([x] x x) ([x] x x))", "y", 1, 1, 1, None),
    ("([x] y) (z (([x] x x) ([x] x x)))", "y", 1, 1, 1, None),
    ("([x] [z] x) y (([x] x x) ([x] x x))", "y", 2, 2, 2, None),
    ("([x] y) ([z] ([x] x x) ([x] x x))", "y", 1, 1, 1, 1),
    ("([f] f (f x)) ([y] ([z] z z) y)", "x x (x x)", 7, 7, 5, 5)]


class MachineCase(RefusalCase):
    def stands(self, machine, turns, worth=None):
        """The machine is behind so many turns, and done where a worth is told."""
        kind = type(machine).__name__
        self.assertEqual(machine.turns, turns, kind)
        self.assertIs(type(machine.turns), int, kind)
        self.assertIs(machine.done(), worth is not None, kind)
        if worth is None:
            self.refused(NotDone, machine.worth)
        else:
            self.assertIs(type(machine.worth()), Term, kind)
            self.assertEqual(machine.worth(), worth, kind)

    def each(self, text):
        """Each machine of the text's term, new, with the term's worth and how many turns it takes till then."""
        term = read_term(text)
        for kind in CLASSES:
            turns = heads.worked_out(trees.parsed(text), WAYS[kind], 400)[1]
            yield kind(term), normal(term)[0], turns


class TestInterface(MachineCase):
    def test_classes_have_their_methods_themselves(self):
        for kind in CLASSES:
            self.assertEqual(kind.__module__, "fanweave.machines")
            self.assertIs(getattr(machines, kind.__name__), kind)
            for method in ["step", "done", "run", "back", "worth", "copy"]:
                self.assertIn(method, vars(kind))

    def test_a_new_machine(self):
        for kind in CLASSES:
            self.stands(kind(read_term("([x] x) y")), 0)
            self.stands(kind(term=name("x")), 0)

    def test_arguments_by_name_alone(self):
        for kind in CLASSES:
            machine = kind(read_term("([x] x) y"))
            self.assertRaises(TypeError, machine.run, 5)
            self.assertIsNone(machine.run(most=5))
            self.assertRaises(TypeError, machine.back, 1)
            self.assertIsNone(machine.back(many=1))
            self.assertIsNone(machine.run())
            self.assertIsNone(machine.back())
            self.stands(machine, 0)


class TestCounts(MachineCase):
    def test_told_counts(self):
        for text, worth, *counts in COUNTS:
            for kind, turns in zip(CLASSES, counts):
                machine = kind(read_term(text))
                with self.subTest(f"{kind.__name__} of {text}"):
                    if turns is None:
                        self.too_long(100, machine.run)
                    else:
                        machine.run()
                        self.stands(machine, turns, read_term(worth))

    def test_as_worked_out_by_functions_within_functions(self):
        for tree in samples.ending():
            term = trees.built(tree)
            for kind in CLASSES:
                wanted = heads.worked_out(tree, WAYS[kind], 60)
                machine = kind(term)
                if wanted is None:
                    self.assertIs(kind, Valuer)
                    self.too_long(60, machine.run)
                else:
                    machine.run(most=wanted[1])
                    self.stands(machine, wanted[1], samples.term_of(wanted[0]))

    def test_one_worth_and_no_more_turns_by_need_than_by_name(self):
        fewer = 0
        for tree in samples.ending():
            term = trees.built(tree)
            worth, turns = normal(term)
            placer, namer, needer = Placer(term), Namer(term), Needer(term)
            for machine in (placer, namer, needer):
                machine.run()
                self.assertEqual(machine.worth(), worth)
            self.assertEqual((placer.turns, namer.turns), (turns, turns))
            self.assertLessEqual(needer.turns, namer.turns)
            fewer += needer.turns < namer.turns
        self.assertGreater(fewer, 50)

    def test_endless_terms(self):
        for text in samples.ENDLESS:
            for kind in CLASSES:
                machine = kind(read_term(text))
                self.too_long(60, machine.run)
                self.stands(machine, 0)
                self.assertEqual([machine.step() for _ in range(30)], [True] * 30)
                self.too_long(20, machine.run)
                self.stands(machine, 30)


class TestStepping(MachineCase):
    def test_true_for_each_turn_and_then_false(self):
        for text, *_ in [row for row in COUNTS if row[-1] is not None]:
            for machine, worth, turns in self.each(text):
                for done in range(turns):
                    self.stands(machine, done)
                    self.assertIs(machine.step(), True)
                self.stands(machine, turns)
                for _ in range(3):
                    self.assertIs(machine.step(), False)
                    self.stands(machine, turns, worth)

    def test_two_machines_of_a_term_leave_one_another(self):
        for text in (FOUR_TURNS, "x"):
            for machine, worth, turns in self.each(text):
                other = type(machine)(read_term(text))
                machine.run()
                self.stands(other, 0)
                other.run()
                machine.back(many=turns)
                self.stands(other, turns, worth)

    def test_worth_is_told_again(self):
        for machine, worth, turns in self.each(FOUR_TURNS):
            machine.run()
            self.assertEqual([machine.worth(), machine.worth(), machine.done(), machine.turns],
                             [worth, worth, True, turns])

    def test_a_worth_is_a_term_as_others(self):
        for kind in CLASSES:
            machine = kind(read_term("[w] ([x] [y] x y v) (w w)"))
            machine.run()
            worth = machine.worth()
            self.assertEqual(worth, read_term("[p] [q] p p q v"))
            self.assertEqual((len(worth), str(worth), worth.free()), (9, "[a] [b] a a b v", ["v"]))
            self.assertEqual([kind_at(worth, address) for address in ("", "bb", "bbg")], ["fun", "put", "name"])
            self.assertEqual(str(part_at(worth, "b")), "[b] a a b v")
            self.assertEqual(read_term(str(worth)), worth)

    def test_free_names_are_kept_apart_from_bound_ones(self):
        for text, worth in [("[y] ([x] [y] x y) y", "[a] [b] a b"), ("([x] [y] x) y", "[a] y"),
                            ("[z] ([x] [y] x (x y)) ([w] [y] z)", "[a] [b] [c] a"),
                            ("([x] [y] [z] x) ([w] w y z)", "[a] [b] [c] c y z"),
                            ("[p] ([x] [q] x ([r] x)) (p ([s] s p))", "[a] [b] a ([c] c a) ([c] a ([d] d a))")]:
            for kind in CLASSES:
                machine = kind(read_term(text))
                machine.run()
                self.assertEqual(str(machine.worth()), worth, kind.__name__)


class TestRun(MachineCase):
    def test_most(self):
        for machine, worth, turns in self.each(FOUR_TURNS):
            for most in range(turns):
                self.too_long(most, machine.run)
                self.stands(machine, 0)
            machine.run(most=turns)
            self.stands(machine, turns, worth)
            machine.run(most=0)
            self.stands(machine, turns, worth)

    def test_no_turn_at_all(self):
        for machine, worth, _ in self.each("x ([y] y)"):
            machine.run(most=0)
            self.stands(machine, 0, worth)

    def test_behind_steps_that_are_not_counted(self):
        for machine, worth, turns in self.each(FOUR_TURNS):
            for done in range(turns):
                most = turns - done
                self.too_long(most - 1, machine.run)
                self.stands(machine, done)
                ahead = machine.copy()
                ahead.run(most=most)
                self.stands(ahead, turns, worth)
                machine.step()
            machine.run(most=0)
            self.stands(machine, turns, worth)

    def test_refused_behind_a_kept_head(self):
        # The head of x is kept by need in the run that is refused: it must not be there behind the refusal.
        term = read_term("([x] y x x x) (([w] w) (([v] v) z))")
        for kind, turns in zip(CLASSES, [7, 7, 3, 3]):
            for done in range(turns):
                machine = kind(term)
                for _ in range(done):
                    machine.step()
                for most in range(turns - done):
                    self.too_long(most, machine.run)
                machine.run()
                self.stands(machine, turns, normal(term)[0])

    def test_limit_where_left_out(self):
        for kind in CLASSES:
            self.assertEqual(self.refused(TooLong, kind(read_term(samples.ENDLESS[0])).run).turns, 400)
        row = name("x")
        for _ in range(400):
            row = put(fun("x", name("x")), row)
        for kind in CLASSES:
            machine = kind(row)
            machine.run()
            self.stands(machine, 400, name("x"))
            self.assertEqual(self.refused(TooLong, kind(put(fun("x", name("x")), row)).run).turns, 400)


class TestBack(MachineCase):
    def test_back_and_on_again(self):
        for text in [FOUR_TURNS, "([x] y x x x) (([w] w) (([v] v) z))", "([f] f (f x)) ([y] ([z] z z) y)"]:
            for machine, worth, turns in self.each(text):
                for many in range(1, turns + 1):
                    machine.run()
                    machine.back(many=many)
                    self.stands(machine, turns - many)
                    for done in range(turns - many, turns):
                        self.assertIs(machine.step(), True)
                        self.stands(machine, done + 1)
                    self.assertIs(machine.step(), False)
                    self.stands(machine, turns, worth)

    def test_one_where_left_out(self):
        for machine, worth, turns in self.each(FOUR_TURNS):
            machine.run()
            for done in reversed(range(turns)):
                machine.back()
                self.stands(machine, done)
            self.refused(NoBack, machine.back)
            machine.run(most=turns)
            self.stands(machine, turns, worth)

    def test_none(self):
        for machine, worth, turns in self.each(FOUR_TURNS):
            machine.back(many=0)
            self.stands(machine, 0)
            for done in range(turns):
                self.assertIs(machine.step(), True)
                machine.back(many=0)
                self.stands(machine, done + 1)
            self.assertIs(machine.step(), False)
            machine.back(many=0)
            self.stands(machine, turns, worth)

    def test_more_than_were_done(self):
        for machine, worth, turns in self.each(FOUR_TURNS):
            self.refused(NoBack, machine.back)
            self.refused(NoBack, machine.back, many=1)
            machine.step()
            for many in (2, 3, 400, 10 ** 30):
                self.refused(NoBack, machine.back, many=many)
                self.stands(machine, 1)
            machine.run()
            self.refused(NoBack, machine.back, many=turns + 1)
            self.stands(machine, turns, worth)

    def test_of_a_machine_that_is_done_without_turns(self):
        for machine, worth, _ in self.each("x"):
            machine.step()
            self.refused(NoBack, machine.back)
            machine.back(many=0)
            self.stands(machine, 0, worth)

    def test_what_is_no_whole_number(self):
        for machine, worth, turns in self.each(FOUR_TURNS):
            machine.step()
            machine.step()
            for many in samples.NO_WHOLE_NUMBERS + samples.NO_TEXTS[:3] + [[], "1", -1, samples.Agreeing()]:
                self.refused(NoBack, machine.back, many=many)
                self.stands(machine, 2)
            machine.run()
            for many in samples.NO_WHOLE_NUMBERS:
                self.refused(NoBack, machine.back, many=many)
            self.stands(machine, turns, worth)


class TestCopy(MachineCase):
    def test_ahead_of_the_end(self):
        for machine, worth, turns in self.each(FOUR_TURNS):
            for done in range(turns + 1):
                twin = machine.copy()
                self.assertIs(type(twin), type(machine))
                self.assertIsNot(twin, machine)
                self.stands(twin, done)
                twin.run(most=turns - done)
                self.stands(twin, turns, worth)
                self.stands(machine, done)
                machine.step()

    def test_behind_the_end(self):
        for machine, worth, turns in self.each(FOUR_TURNS):
            machine.run()
            twin = machine.copy()
            self.stands(twin, turns, worth)
            self.assertIs(twin.step(), False)
            twin.run(most=0)
            twin.back(many=turns)
            self.stands(twin, 0)
            self.stands(machine, turns, worth)
            self.refused(NoBack, twin.back)
            twin.run(most=turns)
            self.stands(twin, turns, worth)

    def test_what_is_done_to_the_one_leaves_the_other(self):
        for machine, worth, turns in self.each("([x] y x x x) (([w] w) (([v] v) z))"):
            machine.step()
            twin = machine.copy()
            machine.run()
            self.stands(twin, 1)
            self.assertIs(twin.step(), True)
            self.stands(machine, turns, worth)
            machine.back(many=turns)
            self.stands(twin, 2)
            self.too_long(turns - 3, twin.run)
            twin.run(most=turns - 2)
            self.stands(twin, turns, worth)
            self.stands(machine, 0)

    def test_a_copy_of_a_copy_of_a_machine_taken_back(self):
        for machine, worth, turns in self.each(FOUR_TURNS):
            machine.run()
            machine.back(many=2)
            twin = machine.copy().copy()
            self.stands(twin, turns - 2)
            twin.back()
            twin.step()
            twin.step()
            self.stands(twin, turns - 1)
            twin.run()
            self.stands(twin, turns, worth)

    def test_tells_what_one_made_anew_tells(self):
        for tree in samples.ending()[::7]:
            term = trees.built(tree)
            for kind in CLASSES:
                if heads.worked_out(tree, WAYS[kind], 60) is not None:
                    self.compare_along(kind, term)

    def compare_along(self, kind, term):
        machine = kind(term)
        machine.run()
        turns, worth = machine.turns, machine.worth()
        for many in range(turns + 1):
            twin = machine.copy()
            twin.back(many=many)
            anew = kind(term)
            for _ in range(turns - many):
                anew.step()
            twin.run(most=many)
            anew.run(most=many)
            self.stands(twin, turns, worth)
            self.stands(anew, turns, worth)
        self.stands(machine, turns, worth)


class TestBounds(MachineCase):
    def test_turns_deep_within_one_another(self):
        times = samples.put_to("[m] [n] [f] m (n f)", samples.numeral(40), samples.numeral(40))
        term = samples.put_to(times, "[a] a", "x")
        for kind, turns in zip(CLASSES, [1685, 1685, 1646, 1646]):
            machine = kind(term)
            self.too_long(turns - 1, machine.run)
            machine.run(most=2000)
            self.stands(machine, turns, name("x"))
            machine.back(many=1000)
            machine.run(most=1000)
            self.stands(machine, turns, name("x"))

    def test_a_worth_of_2000_parts(self):
        term = samples.put_to(samples.numeral(9), "[a] y a a", "z")
        worth = read_term("z")
        for _ in range(9):
            worth = put(put(name("y"), worth), worth)
        for kind, turns in zip(CLASSES, [513, 513, 11, 11]):
            machine = kind(term)
            machine.run(most=turns)
            self.stands(machine, turns, worth)

    def test_a_hundred_and_fifty_deep_and_more(self):
        deep = put_in(samples.deep_functions(200), "x", name("y"))
        long = samples.deep_left(400)
        right = samples.deep_right(1000)
        for inner in (deep, long, right, put(right, deep)):
            for kind in CLASSES:
                machine = kind(put(fun("v", put(put(name("z"), name("v")), name("v"))), inner))
                machine.run()
                self.stands(machine, 1, put(put(name("z"), inner), inner))
        for kind in CLASSES:
            machine = kind(samples.deep_brackets(400))
            machine.run()
            self.stands(machine, 400, name("y"))

    def test_2000_turns_without_an_end(self):
        for kind in CLASSES:
            machine = kind(read_term(samples.ENDLESS[0]))
            self.too_long(2000, machine.run)
            self.stands(machine, 0)
            self.assertIs(machine.step(), True)

    def test_a_hundred_thousand_parts(self):
        for kind in CLASSES:
            machine = kind(put(fun("x", name("y")), samples.large()))
            machine.run()
            self.stands(machine, 1, name("y"))
            machine = kind(samples.large())
            machine.run()
            self.stands(machine, 0, samples.large())


class TestNothingIsChanged(MachineCase):
    def test_the_term_that_was_handed_in(self):
        term = read_term(FOUR_TURNS)
        text = str(term)
        for kind in CLASSES:
            machine = kind(term)
            self.too_long(1, machine.run)
            machine.run()
            machine.back(many=2)
            self.assertEqual((str(term), term, redexes(term)), (text, read_term(text), ["", "g"]))


if __name__ == "__main__":
    unittest.main()
