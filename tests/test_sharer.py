"""Points 2, 3, 4, 12 and 21: the sharer."""

import random
import unittest

from fanweave import sharer
from fanweave.errors import NoBack, NotDone, TooLong
from fanweave.labels import families, rounds, run_families
from fanweave.machines import Namer, Needer, Placer, Valuer
from fanweave.nets import Net
from fanweave.nettexts import net_text
from fanweave.plain import all_turned, normal
from fanweave.searching import Search
from fanweave.sharer import Sharer
from fanweave.terms import Term, fun, name, put
from fanweave.texts import read_term
from tests import knots, samples, trees
from tests.cases import RefusalCase

DOUBLED = "([x] x x) (([y] y) ([z] z))"
# Terms with their worths, the rows of their trails, and the sharer's steps: t a turn, m a move.
TOLD = [
    ("x", "x", [], ""),
    ("[x] x (y x)", "[a] a (y a)", [], ""),
    ("([x] x) y", "y", [[""]], "t"),
    ("[z] ([x] y) z", "[a] y", [["b"]], "t"),
    ("([x] y) (([z] z) w)", "y", [[""]], "t"),
    # One turn for both places of what was doubled.
    ("([x] y x x) (([z] z) w)", "y w w", [[""], ["fg", "g"]], None),
    ("([x] y x x) ([z] ([w] w) z)", "y ([a] a) ([a] a)", [[""], ["fgb", "gb"]], None),
    # Also within a function that waits, though it is put to two things.
    ("([x] y (x v) (x w)) ([u] ([z] z z) v)", "y (v v) (v v)", [[""], ["fg"], ["fg", "gfb"], ["g"]], None),
    (DOUBLED, "[a] a", [[""], ["f", "g"], [""]], None)]


class SharerCase(RefusalCase):
    def stands(self, machine, turns, moves, worth=None):
        """The machine is behind so many turns and moves, and done where a worth is told."""
        self.assertEqual((machine.turns, machine.moves), (turns, moves))
        self.assertEqual((type(machine.turns), type(machine.moves)), (int, int))
        self.assertIs(machine.done(), worth is not None)
        if worth is None:
            self.refused(NotDone, machine.worth)
        else:
            self.assertIs(type(machine.worth()), Term)
            self.assertEqual(machine.worth(), worth)

    def state(self, machine):
        """All that a machine tells, also by its net's numbers."""
        net = machine.net()
        worth = machine.worth() if machine.done() else None
        return (machine.turns, machine.moves, machine.done(), worth, machine.trail(), net.knots(), net.ties(),
                net.meetings())

    def steps(self, term):
        """The list of what the steps tell till the machine is done."""
        machine = Sharer(term)
        told = []
        while not machine.done():
            told.append(machine.step())
        return told

    def states(self, term):
        """The list of the states of a machine behind each number of steps, the last of them not yet done."""
        machine = Sharer(term)
        told = [self.state(machine)]
        while machine.step() is not None:
            told.append(self.state(machine))
        return told


class TestInterface(SharerCase):
    def test_class_has_its_methods_itself(self):
        self.assertEqual((Sharer.__module__, sharer.Sharer), ("fanweave.sharer", Sharer))
        for method in ["step", "done", "run", "back", "worth", "net", "trail", "copy"]:
            self.assertIn(method, vars(Sharer))

    def test_a_new_machine(self):
        machine = Sharer(term=read_term(DOUBLED))
        self.stands(machine, 0, 0)
        self.assertEqual(machine.trail(), [])
        self.assertIs(type(machine.net()), Net)
        self.assertEqual(machine.net().read(), read_term(DOUBLED))
        self.assertEqual(net_text(machine.net()), net_text(Net(read_term(DOUBLED))))

    def test_arguments_by_name_alone(self):
        machine = Sharer(read_term("([x] x) y"))
        self.assertRaises(TypeError, machine.run, 5)
        self.assertRaises(TypeError, machine.back, 1)
        self.assertIsNone(machine.run(moves=5, most=5))
        self.assertIsNone(machine.back(many=1))
        self.assertIsNone(machine.run(most=5))
        self.assertIsNone(machine.back())
        self.assertIsNone(machine.run(moves=5))
        self.assertIsNone(machine.run())

    def test_lists_and_nets_are_the_askers_own(self):
        machine = Sharer(read_term(DOUBLED))
        machine.run()
        told = machine.trail()
        told[1].append("b")
        told[0].clear()
        told.pop()
        self.assertEqual(machine.trail(), [[""], ["f", "g"], [""]])
        self.assertEqual(len({id(row) for row in machine.trail() + machine.trail()}), 6)
        machine = Sharer(read_term(DOUBLED))
        net = machine.net()
        self.assertEqual(net.fire(net.meetings()[0]), "turn")
        self.assertEqual(net_text(machine.net()), net_text(Net(read_term(DOUBLED))))
        net = machine.net()
        machine.run()
        self.assertEqual(net.read(), read_term(DOUBLED))


class TestSteps(SharerCase):
    def test_told_terms(self):
        for text, worth, rows, steps in TOLD:
            machine = Sharer(read_term(text))
            told = self.steps(read_term(text))
            machine.run()
            self.stands(machine, len(rows), told.count("move"), read_term(worth))
            self.assertEqual(machine.trail(), rows)
            self.assertEqual(told.count("turn"), len(rows))
            self.assertIs(told[-1], None)
            if steps is not None:
                self.assertEqual("".join(step[0] for step in told[:-1]), steps)

    def test_as_by_knots_that_hold_one_another(self):
        deeds = []
        for tree in samples.ending()[::2]:
            root = knots.net_of(tree)
            machine = Sharer(trees.built(tree))
            pair = knots.due(root)
            while pair is not None:
                deeds.append(knots.fire(*pair))
                self.assertEqual(machine.step(), deeds[-1])
                self.assertEqual(net_text(machine.net()), knots.text_of(root))
                pair = knots.due(root)
            self.assertIs(machine.step(), None)
            self.assertEqual(net_text(machine.net()), knots.text_of(root))
        self.assertGreater(min(deeds.count("turn"), deeds.count("move")), 500)

    def test_a_search_goes_on_where_one_begun_anew_comes_to(self):
        chance = random.Random(1)
        terms = [trees.built(samples.combined(chance, chance.randint(4, 12))) for _ in range(60)]
        for term in terms + [read_term(text) for text in samples.ENDLESS]:
            web = Net(term).web
            search = Search(web)
            for _ in range(120):
                pair = search.next_meeting()
                self.assertEqual(Search(web).next_meeting(), pair)
                if pair is None:
                    break
                web.fire(*pair)
                search.go_behind(pair)

    def test_at_every_step_the_net_reads_back(self):
        for tree in samples.ending()[::3]:
            term = trees.built(tree)
            machine = Sharer(term)
            turns = moves = 0
            while True:
                deed = machine.step()
                turns += deed == "turn"
                moves += deed == "move"
                if deed is None:
                    break
                self.stands(machine, turns, moves)
                if deed == "turn":
                    self.assertEqual(len(machine.trail()), turns)
                    term = all_turned(term, machine.trail()[-1])
                self.assertEqual(machine.net().read(), term)
            self.stands(machine, turns, moves, term)

    def test_a_machine_that_is_done(self):
        machine = Sharer(read_term(DOUBLED))
        machine.run()
        state = self.state(machine)
        for _ in range(3):
            self.assertIs(machine.step(), None)
            machine.run(most=0, moves=0)
            self.assertEqual(self.state(machine), state)

    def test_a_worth(self):
        for text in ["x", "[x] x", "x ([y] y x)", "[a] [b] a (a b)"]:
            machine = Sharer(read_term(text))
            self.stands(machine, 0, 0)
            self.assertIs(machine.step(), None)
            self.stands(machine, 0, 0, read_term(text))
            machine = Sharer(read_term(text))
            machine.run(most=0, moves=0)
            self.stands(machine, 0, 0, read_term(text))
            self.assertEqual(machine.trail(), [])


class TestTheOneWorth(SharerCase):
    def test_worth_and_turns(self):
        fewer = 0
        for tree in samples.ending():
            term = trees.built(tree)
            machine = Sharer(term)
            machine.run()
            self.assertEqual(machine.worth(), normal(term)[0])
            self.assertEqual(machine.net().read(), machine.worth())
            self.assertEqual(machine.turns, len({number for _, number in families(term)}))
            counts = [self.turns_of(kind(term)) for kind in (Placer, Namer, Needer, Valuer)]
            for turns in counts:
                self.assertTrue(turns is None or turns >= machine.turns, tree)
            fewer += all(turns is None or turns > machine.turns for turns in counts)
        self.assertGreater(fewer, 10)

    def turns_of(self, machine):
        try:
            machine.run(most=100)
        except TooLong:
            return None
        return machine.turns

    def test_turns_are_of_unlike_families(self):
        for tree in samples.ending():
            term = trees.built(tree)
            machine = Sharer(term)
            machine.run()
            self.assertEqual(machine.trail(), rounds(term))
            addresses = [address for row in machine.trail() for address in reversed(row)]
            numbers = [number for number, row in enumerate(machine.trail()) for _ in row]
            self.assertEqual(run_families(term, addresses), numbers)

    def test_larger_terms(self):
        chance = random.Random(2)
        done = 0
        while done < 60:
            tree = samples.combined(chance, chance.randint(6, 12))
            if trees.size_of(tree) > 60 or not samples.is_short(tree):
                continue
            term = trees.built(tree)
            machine = Sharer(term)
            machine.run()
            self.assertEqual((machine.worth(), machine.trail()), (normal(term)[0], rounds(term)))
            done += machine.turns > 8


class TestRun(SharerCase):
    def test_bounds_of_just_as_many(self):
        for text in [DOUBLED, "([x] y (x v) (x w)) ([u] ([z] z z) v)", "([x] y x x) (([w] w) (([v] v) z))"]:
            term = read_term(text)
            machine = Sharer(term)
            machine.run()
            turns, moves, worth = machine.turns, machine.moves, machine.worth()
            machine = Sharer(term)
            machine.run(most=turns, moves=moves)
            self.stands(machine, turns, moves, worth)

    def test_bounds_of_fewer(self):
        for text in [DOUBLED, "([x] y (x v) (x w)) ([u] ([z] z z) v)", "([x] y x x) (([w] w) (([v] v) z))"]:
            term = read_term(text)
            steps = self.steps(term)[:-1]
            machine = Sharer(term)
            for done in range(len(steps)):
                state = self.state(machine)
                for most in range(steps[done:].count("turn")):
                    self.too_long(most, machine.run)
                    self.assertEqual(self.state(machine), state)
                for moves in range(steps[done:].count("move")):
                    self.too_many_moves(machine, moves)
                    self.assertEqual(self.state(machine), state)
                self.assertEqual(machine.step(), steps[done])

    def too_many_moves(self, machine, moves):
        error = self.refused(TooLong, machine.run, moves=moves)
        self.assertEqual((error.turns, error.moves), (None, moves))

    def test_which_of_both_is_first(self):
        steps = self.steps(read_term(DOUBLED))[:-1]
        self.assertEqual(steps[0], "turn")
        machine = Sharer(read_term(DOUBLED))
        for most in range(steps.count("turn") + 1):
            for moves in range(steps.count("move") + 1):
                turn_at = [at for at, step in enumerate(steps) if step == "turn"][most:][:1]
                move_at = [at for at, step in enumerate(steps) if step == "move"][moves:][:1]
                if not turn_at and not move_at:
                    continue
                error = self.refused(TooLong, machine.run, most=most, moves=moves)
                wanted = (None, moves) if turn_at == [] or (move_at and move_at < turn_at) else (most, None)
                self.assertEqual((error.turns, error.moves), wanted)
                self.stands(machine, 0, 0)

    def test_those_ahead_are_not_counted(self):
        for text in [DOUBLED, "([x] y (x v) (x w)) ([u] ([z] z z) v)", "([f] f (f x)) ([y] ([z] z z) y)"]:
            term = read_term(text)
            steps = self.steps(term)[:-1]
            self.assertGreater(steps.count("move"), 2)
            for done in range(len(steps) + 1):
                machine = Sharer(term)
                for _ in range(done):
                    machine.step()
                machine.run(most=steps[done:].count("turn"), moves=steps[done:].count("move"))
                self.stands(machine, steps.count("turn"), steps.count("move"), normal(term)[0])

    def test_endless_terms(self):
        for text in samples.ENDLESS:
            machine = Sharer(read_term(text))
            error = self.refused(TooLong, machine.run, most=50)
            self.assertEqual((error.turns, error.moves), (50, None))
            self.too_many_moves(machine, 100)
            self.stands(machine, 0, 0)
            self.assertEqual(net_text(machine.net()), net_text(Net(read_term(text))))

    def test_left_out(self):
        row = name("x")
        for _ in range(400):
            row = put(fun("x", name("x")), row)
        machine = Sharer(row)
        machine.run()
        self.assertEqual((machine.turns, machine.worth()), (400, name("x")))
        error = self.refused(TooLong, Sharer(put(fun("x", name("x")), row)).run, moves=20000)
        self.assertEqual((error.turns, error.moves), (400, None))
        error = self.refused(TooLong, Sharer(read_term(samples.ENDLESS[0])).run)
        self.assertEqual((error.turns, error.moves), (None, 8000))


class TestBack(SharerCase):
    def test_behind_any_steps(self):
        for text in [DOUBLED, "([x] y (x v) (x w)) ([u] ([z] z z) v)", "([f] f (f x)) ([y] ([z] z z) y)"]:
            term = read_term(text)
            states = self.states(term)
            for many in range(1, len(states)):
                machine = Sharer(term)
                machine.run()
                machine.back(many=many)
                for state in states[len(states) - 1 - many:]:
                    self.assertEqual(self.state(machine), state)
                    deed = machine.step()
                self.assertIs(deed, None)
                self.assertTrue(machine.done())

    def test_one_where_left_out(self):
        states = self.states(read_term(DOUBLED))
        machine = Sharer(read_term(DOUBLED))
        machine.run()
        for state in reversed(states[:-1]):
            machine.back()
            self.assertEqual(self.state(machine), state)
        self.refused(NoBack, machine.back)

    def test_none_of_them(self):
        machine = Sharer(read_term(DOUBLED))
        for _ in range(4):
            state = self.state(machine)
            machine.back(many=0)
            self.assertEqual(self.state(machine), state)
            machine.step()
        machine.run()
        state = self.state(machine)
        self.assertTrue(machine.done())
        machine.back(many=0)
        self.assertEqual(self.state(machine), state)

    def test_all_of_them(self):
        machine = Sharer(read_term(DOUBLED))
        machine.run()
        machine.back(many=machine.turns + machine.moves)
        self.stands(machine, 0, 0)
        self.assertEqual(self.state(machine), self.state(Sharer(read_term(DOUBLED))))
        machine.back(many=0)
        self.refused(NoBack, machine.back)

    def test_more_than_were_done(self):
        machine = Sharer(read_term(DOUBLED))
        self.refused(NoBack, machine.back)
        for done in range(1, 5):
            machine.step()
            for many in (done + 1, done + 2, 10 ** 30):
                self.refused(NoBack, machine.back, many=many)
                self.assertEqual(machine.turns + machine.moves, done)
        machine.run()
        # The step that told None is none.
        self.assertIs(machine.step(), None)
        state = self.state(machine)
        self.refused(NoBack, machine.back, many=machine.turns + machine.moves + 1)
        self.assertEqual(self.state(machine), state)

    def test_what_is_no_number_of_steps(self):
        machine = Sharer(read_term(DOUBLED))
        machine.step()
        machine.step()
        for _ in range(2):
            state = self.state(machine)
            for many in samples.NO_WHOLE_NUMBERS + samples.NO_TEXTS[:3] + [[], "1", -1, samples.Agreeing()]:
                self.refused(NoBack, machine.back, many=many)
            self.assertEqual(self.state(machine), state)
            machine.run()

    def test_a_worth_is_not_taken_back(self):
        machine = Sharer(name("x"))
        machine.step()
        self.refused(NoBack, machine.back)
        machine.back(many=0)
        self.stands(machine, 0, 0, name("x"))


class TestCopy(SharerCase):
    def test_at_any_step(self):
        for text in [DOUBLED, "([x] y (x v) (x w)) ([u] ([z] z z) v)"]:
            states = self.states(read_term(text))
            machine = Sharer(read_term(text))
            for done, state in enumerate(states):
                twin = machine.copy()
                self.assertIs(type(twin), Sharer)
                self.assertIsNot(twin, machine)
                self.assertEqual(self.state(twin), state)
                for later in states[done + 1:]:
                    twin.step()
                    self.assertEqual(self.state(twin), later)
                self.assertEqual(self.state(machine), state)
                twin.back(many=len(states) - 1)
                self.assertEqual(self.state(twin), states[0])
                self.assertEqual(self.state(machine), state)
                machine.step()

    def test_done_where_the_machine_is(self):
        machine = Sharer(read_term(DOUBLED))
        machine.run()
        state = self.state(machine)
        twin = machine.copy()
        self.assertEqual(self.state(twin), state)
        self.assertIs(twin.step(), None)
        twin.back()
        self.assertFalse(twin.done())
        self.assertEqual(self.state(machine), state)
        self.assertEqual(twin.step(), self.steps(read_term(DOUBLED))[-2])
        self.assertIs(twin.step(), None)
        self.assertEqual(self.state(twin), state)

    def test_what_is_done_to_the_machine_leaves_the_copy(self):
        machine = Sharer(read_term(DOUBLED))
        machine.step()
        twin = machine.copy()
        state = self.state(twin)
        machine.run()
        self.assertEqual(self.state(twin), state)
        machine.back(many=machine.turns + machine.moves)
        self.assertEqual(self.state(twin), state)
        self.refused(TooLong, twin.run, most=0)
        self.assertEqual(self.state(twin), state)

    def test_by_chance(self):
        chance = random.Random(3)
        for tree in samples.ending()[::12]:
            states = self.states(trees.built(tree))
            machine = Sharer(trees.built(tree))
            for _ in range(12):
                kind = chance.choice(["step", "back", "copy", "run", "trail"])
                done = machine.turns + machine.moves
                if kind == "step":
                    machine.step()
                elif kind == "back":
                    machine.back(many=chance.randint(0, done))
                elif kind == "copy":
                    machine = machine.copy()
                elif kind == "trail":
                    machine.trail()
                elif chance.random() < 0.3:
                    machine.run()
                wanted = states[machine.turns + machine.moves]
                told = self.state(machine)
                self.assertEqual(told[:2] + told[4:], wanted[:2] + wanted[4:])


class TestBounds(SharerCase):
    def test_many_turns_at_once(self):
        term = samples.put_to(samples.numeral(9), "[a] y a a", "z")
        machine = Sharer(term)
        machine.run(most=11)
        self.assertEqual([len(row) for row in machine.trail()], [1, 1, 1, 2, 4, 8, 16, 32, 64, 128, 256])
        self.assertEqual(machine.worth(), normal(term, most=2000)[0])

    def test_powers(self):
        for one, other, turns in [(2, 7, 22), (3, 4, 16), (5, 3, 16)]:
            term = samples.put_to("[m] [n] n m", samples.numeral(one), samples.numeral(other))
            machine = Sharer(term)
            machine.run()
            self.assertEqual((machine.turns, machine.worth()), (turns, samples.numeral(one ** other)))
            self.assertEqual(machine.trail(), rounds(term))

    def test_deep_terms(self):
        for term in [samples.deep_brackets(150), samples.deep_left(150), samples.deep_right(150)]:
            machine = Sharer(term)
            machine.run()
            self.assertEqual(machine.worth(), normal(term)[0])
            self.assertEqual(machine.trail(), rounds(term))

    def test_8000_moves(self):
        machine = Sharer(read_term(samples.ENDLESS[0]))
        done = 0
        while done < 8000:
            machine.step()
            done += 1
        twin = machine.copy()
        machine.back(many=1)
        self.assertIsNotNone(machine.step())
        self.assertEqual(net_text(machine.net()), net_text(twin.net()))
        self.assertEqual((machine.turns, machine.moves), (twin.turns, twin.moves))
        machine.back(many=8000)
        self.stands(machine, 0, 0)


if __name__ == "__main__":
    unittest.main()
