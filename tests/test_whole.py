"""Points 1 to 4 over the whole program, and its interface."""

import importlib
import inspect
import random
import unittest

from fanweave import errors
from fanweave.desk import Desk
from fanweave.errors import SpinError, TooLong
from fanweave.labels import families, rounds, run_families
from fanweave.machines import Namer, Needer, Placer, Valuer
from fanweave.nets import Net
from fanweave.nettexts import net_text, read_net
from fanweave.numerals import number_of, numeral, plus, power, times
from fanweave.papers import is_paper, paper_of, race
from fanweave.plain import all_turned, normal, redexes, turned
from fanweave.shapes import is_shaping, shape_of, shaping
from fanweave.sharer import Sharer
from fanweave.terms import fun, kind_at, name, part_at, put, put_in
from fanweave.texts import read_term
from tests import samples, trees
from tests.cases import RefusalCase

CLASSES = [Placer, Namer, Needer, Valuer, Sharer]
DOUBLED = "([x] x x) (([y] y) ([z] z))"
WAITING = "([x] y (x v) (x w)) ([u] ([z] z z) v)"

# Files with their functions and classes as the document writes them, and the methods of classes.
INTERFACE = {
    "terms": ["name(word)", "fun(word, body)", "put(function, argument)", "put_in(term, word, other)",
              "part_at(term, address)", "kind_at(term, address)"],
    "texts": ["read_term(text)"],
    "plain": ["redexes(term)", "turned(term, address)", "all_turned(term, addresses)", "normal(term, *, most=400)"],
    "machines": ["Placer(term)", "Namer(term)", "Needer(term)", "Valuer(term)"],
    "labels": ["families(term, *, most=400)", "rounds(term, *, most=400)", "run_families(term, addresses)"],
    "nets": ["Net(term)"],
    "sharer": ["Sharer(term)"],
    "papers": ["paper_of(term, *, most=400)", "is_paper(term, paper)", "race(term, *, most=400, moves=8000)"],
    "numerals": ["numeral(n)", "plus(one, other)", "times(one, other)", "power(one, other)", "number_of(term)"],
    "shapes": ["shaping(term)", "is_shaping(term, shapes)", "shape_of(term)"],
    "nettexts": ["net_text(net)", "read_net(text)"],
    "desk": ["Desk()"]}
MACHINE = ["step(self)", "done(self)", "run(self, *, most=400)", "back(self, *, many=1)", "worth(self)", "copy(self)"]
METHODS = {
    ("terms", "Term"): ["free(self)", "is_closed(self)"],
    ("machines", "Placer"): MACHINE, ("machines", "Namer"): MACHINE, ("machines", "Needer"): MACHINE,
    ("machines", "Valuer"): MACHINE,
    ("nets", "Net"): ["meetings(self)", "knots(self)", "ties(self)", "fire(self, pair)", "read(self)",
                      "where(self, number)", "copy(self)"],
    ("sharer", "Sharer"): ["step(self)", "done(self)", "run(self, *, most=400, moves=8000)", "back(self, *, many=1)",
                           "worth(self)", "net(self)", "trail(self)", "copy(self)"],
    ("desk", "Desk"): ["tell(self, line)"]}


class TestInterface(unittest.TestCase):
    def test_functions_and_classes_are_defined_in_their_files(self):
        for file, rows in INTERFACE.items():
            module = importlib.import_module(f"fanweave.{file}")
            for row in rows:
                word = row.split("(")[0]
                thing = getattr(module, word)
                self.assertEqual((thing.__module__, thing.__name__), (f"fanweave.{file}", word))
                self.assertEqual(word + str(inspect.signature(thing)), row)

    def test_methods_are_defined_in_their_classes(self):
        for (file, word), rows in METHODS.items():
            kind = getattr(importlib.import_module(f"fanweave.{file}"), word)
            self.assertEqual(kind.__module__, f"fanweave.{file}")
            for row in rows:
                method = vars(kind)[row.split("(")[0]]
                self.assertEqual(method.__name__ + str(inspect.signature(method)), row)

    def test_refusals(self):
        words = ["NoWord", "NoAddress", "NoRedex", "NotDone", "NoBack", "NoMeeting", "NoKnot", "NoNumber", "NoNet",
                 "NoLine", "NoText", "TooLong", "NoName"]
        self.assertEqual(errors.SpinError.__bases__, (ValueError,))
        for word in words:
            self.assertEqual(getattr(errors, word).__bases__, (errors.SpinError,))

    def test_fields(self):
        for kind in CLASSES:
            self.assertEqual(kind(name("x")).turns, 0)
        self.assertEqual(Sharer(name("x")).moves, 0)


class WholeCase(RefusalCase):
    def asked(self, term):
        """Nearly all that can be asked of a term."""
        told = [str(term), len(term), term.free(), term.is_closed(), redexes(term), normal(term), families(term),
                rounds(term), paper_of(term), race(term), shaping(term), shape_of(term), number_of(term),
                kind_at(term, ""), part_at(term, ""), put_in(term, "x", name("y")), all_turned(term, redexes(term)),
                [turned(term, address) for address in redexes(term)], run_families(term, redexes(term)[::-1]),
                plus(term, term), times(term, term), power(term, term), net_text(Net(term)), Net(term).knots(),
                Net(term).ties(), Net(term).meetings(), Net(term).read()]
        for kind in CLASSES:
            machine = kind(term)
            try:
                machine.run()
                told.append((machine.turns, machine.worth()))
            except TooLong as error:
                told.append(vars(error))
        machine = Sharer(term)
        machine.run()
        return told + [machine.moves, machine.trail(), net_text(machine.net())]

    def run_out(self, machine, most=200):
        """The turns of a machine, None where it takes more."""
        try:
            machine.run(most=most)
        except TooLong:
            return None
        return machine.turns

    def lists_in(self, thing):
        """All lists and dicts within an answer."""
        if isinstance(thing, (list, tuple)):
            return [thing] * isinstance(thing, list) + [each for part in thing for each in self.lists_in(part)]
        if isinstance(thing, dict):
            return [thing] + [each for part in thing.values() for each in self.lists_in(part)]
        return []


class TestNothingIsChanged(WholeCase):
    def test_who_asks_again_is_told_the_same(self):
        for text in ["x", "[x] y", DOUBLED, WAITING, "([x] y x x) (([z] z) w)", "[a] [b] a (a b)"]:
            term = read_term(text)
            first = self.asked(term)
            self.assertEqual(self.asked(term), first)
            self.assertEqual(self.asked(read_term(text)), first)
            self.assertEqual(str(term), str(read_term(text)))

    def test_no_list_stands_at_two_places(self):
        for text in [DOUBLED, WAITING]:
            term = read_term(text)
            net = Net(term)
            for told in self.asked(term) + [net.where(pair[0]) for pair in self.puts(net)]:
                found = [id(each) for each in self.lists_in(told)]
                self.assertEqual(len(found), len(set(found)))

    def puts(self, net):
        return [row for row in net.knots() if row[1] == "put"]

    def test_told_lists_are_the_askers_own(self):
        term = read_term(WAITING)
        first = self.asked(term)
        for told in self.asked(term):
            for each in self.lists_in(told):
                each.clear()
        self.assertEqual(self.asked(term), first)

    def test_what_is_handed_in_stays_as_it_is(self):
        term = read_term(WAITING)
        addresses = redexes(term)[::-1] * 2
        rows, worth = paper_of(term)
        shapes = {"": "a"}
        all_turned(term, addresses)
        is_paper(term, (rows, worth))
        is_shaping(term, shapes)
        self.assertEqual((addresses, shapes), (redexes(term)[::-1] * 2, {"": "a"}))
        self.assertEqual((rows, worth), paper_of(term))
        addresses.append("x")
        rows[0].append("x")
        shapes["x"] = "x"
        self.assertEqual(all_turned(term, redexes(term)), all_turned(term, redexes(term)[::-1]))
        self.assertIs(is_paper(term, paper_of(term)), True)

    def test_refusals_change_nothing(self):
        term = read_term(WAITING)
        for kind in CLASSES:
            machine = kind(term)
            machine.step()
            turns = machine.turns
            for call in [lambda: machine.run(most=0), machine.worth, lambda: machine.back(many=2),
                         lambda: machine.back(many=True)]:
                self.assertRaises(SpinError, call)
            self.assertEqual((machine.turns, machine.done()), (turns, False))
            machine.run()
            self.assertEqual(machine.worth(), normal(term)[0])


class TestThePromise(WholeCase):
    def test_all_machines_that_end_tell_one_worth(self):
        chance = random.Random(1)
        more = [samples.combined(chance, chance.randint(4, 9)) for _ in range(300)]
        for tree in list(samples.ending()[::2]) + [tree for tree in more if samples.is_short(tree)]:
            term = trees.built(tree)
            worth, leftmost = normal(term)
            machines = [kind(term) for kind in CLASSES]
            turns = [self.run_out(machine) for machine in machines]
            placer, namer, needer, valuer, sharer = turns
            for machine, count in zip(machines, turns):
                if count is not None:
                    self.assertEqual(machine.worth(), worth)
            self.assertEqual((placer, namer), (leftmost, leftmost))
            self.assertLessEqual(needer, namer)
            self.assertLessEqual(sharer, min(count for count in turns if count is not None))
            self.assertEqual(sharer, len({number for _, number in families(term)}))

    def test_turns_in_any_order(self):
        chance = random.Random(2)
        for tree in samples.ending()[::5]:
            term = trees.built(tree)
            worth = normal(term)[0]
            for _ in range(60):
                if not redexes(term) or len(term) > 400:
                    break
                found = redexes(term)
                term = all_turned(term, chance.sample(found, chance.randint(1, len(found))))
            self.assertTrue(redexes(term) or term == worth)

    def test_turns_of_a_sharer_are_let_by_a_paper_just_where_they_are_rounds(self):
        chance = random.Random(3)
        for tree in samples.ending()[::5]:
            term = trees.built(tree)
            machine = Sharer(term)
            machine.run()
            rows, worth = machine.trail(), machine.worth()
            self.assertIs(is_paper(term, (rows, worth)), True)
            if rows:
                at = chance.randrange(len(rows))
                for wrong in [rows[:at] + rows[at + 1:], rows[:at] + [rows[at][1:]] + rows[at + 1:],
                              rows[:at] + [rows[at] + rows[at][:1]] + rows[at + 1:]]:
                    self.assertIs(is_paper(term, (wrong, worth)), False)

    def test_a_net_reads_back_at_every_moment(self):
        chance = random.Random(4)
        for tree in samples.ending()[::7]:
            term = trees.built(tree)
            machine = Sharer(term)
            while machine.step() is not None:
                now = term
                for row in machine.trail():
                    now = all_turned(now, row)
                net = machine.net()
                self.assertEqual(net.read(), now)
                # Whatever else is done there, too; and by its text.
                for _ in range(3):
                    if net.meetings():
                        pair = chance.choice(net.meetings())
                        kinds = {row[0]: row[1] for row in net.knots()}
                        puts = [number for number in pair if kinds[number] == "put"]
                        if {kinds[number] for number in pair} == {"put", "fun"}:
                            now = all_turned(now, net.where(puts[0]))
                        net.fire(pair)
                        self.assertEqual(net.read(), now)
                self.assertEqual(read_net(net_text(net)).read(), now)

    def test_gone_on_and_taken_back_on_whatever_copy(self):
        chance = random.Random(5)
        for tree in samples.ending()[::20]:
            term = trees.built(tree)
            for kind in CLASSES:
                if self.run_out(kind(term)) is None:
                    continue
                kept = [kind(term)]
                for _ in range(10):
                    machine = chance.choice(kept)
                    self.change(machine, chance)
                    kept.append(machine.copy())
                for machine in kept:
                    self.compare(machine, kind(term))

    def change(self, machine, chance):
        """Let a machine go on or back by some steps."""
        if chance.random() < 0.4:
            done = machine.turns + getattr(machine, "moves", 0)
            machine.back(many=chance.randint(0, done))
        elif chance.random() < 0.2:
            machine.run()
        else:
            for _ in range(chance.randint(0, 4)):
                machine.step()

    def compare(self, machine, anew):
        """The machine tells what one made anew tells behind as many steps, now and on the way to the end."""
        done = machine.turns + getattr(machine, "moves", 0)
        for _ in range(done):
            anew.step()
        self.assertEqual(anew.turns, machine.turns)
        if isinstance(machine, Sharer):
            self.assertEqual((anew.trail(), anew.net().ties()), (machine.trail(), machine.net().ties()))
        while not machine.done():
            told = machine.step()
            self.assertEqual(anew.step(), told)
            self.assertEqual(anew.turns, machine.turns)
        anew.run()
        self.assertEqual((anew.turns, anew.worth()), (machine.turns, machine.worth()))


class TestBounds(WholeCase):
    def terms_of_60_parts(self):
        """Terms of about 60 parts, some of them 30 deep."""
        chance = random.Random(6)
        told = [put(fun("v", put(name("v"), name("v"))), samples.deep_right(28)), samples.deep_functions(29),
                put(samples.deep_functions(15), samples.deep_left(20)), samples.deep_brackets(19)]
        while len(told) < 20:
            tree = samples.combined(chance, 11)
            if 50 <= trees.size_of(tree) <= 60 and samples.is_short(tree):
                told.append(trees.built(tree))
        return told

    def test_terms_of_60_parts_and_30_deep(self):
        for term in self.terms_of_60_parts():
            self.assertEqual(read_term(str(term)), term)
            told = self.asked(term)
            self.assertEqual(self.asked(read_term(str(term))), told)
            self.assertIs(is_paper(term, paper_of(term)), True)
            if shaping(term) is not None:
                self.assertIs(is_shaping(term, shaping(term)), True)

    def test_what_was_told_is_handed_in_again(self):
        term = power(numeral(2), numeral(9))
        worth = normal(samples.put_to(times(numeral(3), numeral(40)), "x"))[0]
        self.assertEqual(read_term(str(worth)), worth)
        self.assertEqual(normal(worth), (worth, 0))
        self.assertEqual(number_of(normal(times(numeral(3), numeral(40)))[0]), 120)
        rows, _ = paper_of(samples.put_to(samples.numeral(8), "[a] y a a", "z"))
        self.assertGreater(max(len(row) for row in rows), 100)
        self.assertIs(is_paper(samples.put_to(samples.numeral(8), "[a] y a a", "z"),
                               paper_of(samples.put_to(samples.numeral(8), "[a] y a a", "z"))), True)
        text = net_text(Net(term))
        self.assertEqual(net_text(read_net(text)), text)
        addresses = [address for row in rows for address in reversed(row)]
        self.assertEqual(len(run_families(samples.put_to(samples.numeral(8), "[a] y a a", "z"), addresses)),
                         len(addresses))

    def test_numbers_by_a_desk(self):
        made = Desk()
        for line, answer in [
                (f"let two {numeral(2)}", "7"), (f"let six {numeral(6)}", "15"), ("let p [m] [n] n m", "5"),
                ("make a sharer p two six ([a] a) x", "ok"), ("end a", "x"),
                ("make b needer p two six ([a] a) x", "ok"), ("end b", "x"),
                ("shape p two six", "((a > a) > (a > a))")]:
            self.assertEqual(made.tell(line), answer)
        self.assertLess(int(made.tell("turns a")), int(made.tell("turns b")))
        counts = made.tell("race p two six ([a] a) x").split(" ")
        self.assertEqual([counts[2], counts[4]], [made.tell("turns b"), made.tell("turns a")])

    def test_endless_terms_are_refused(self):
        for text in samples.ENDLESS:
            term = read_term(text)
            self.assertEqual(list(race(term, most=100).values()), [None] * 5)
            for call in (normal, families, rounds, paper_of):
                self.too_long(100, call, term)
            self.assertIsNone(shape_of(term))


if __name__ == "__main__":
    unittest.main()
