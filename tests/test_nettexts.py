"""Points 2, 3, 28 and 29: nets as texts."""

import random
import unittest

from fanweave import nettexts
from fanweave.errors import NoMeeting, NoText
from fanweave.nets import Net
from fanweave.nettexts import net_text, read_net
from fanweave.plain import normal
from fanweave.sharer import Sharer
from fanweave.terms import fun, name, put
from fanweave.texts import read_term
from tests import knots, samples, trees
from tests.cases import RefusalCase

OF_X = "root 0 1.1; opener 0 2.0 0.0; name 0 x 1.0"
KINDS = {"root": 1, "name": 1, "end": 1, "put": 3, "fun": 3, "fork": 3, "opener": 2, "box": 2}

# Texts with the number of the first row that is none.
NO_ROWS = [
    ("", 0), (" ", 0), ("x", 0), ("root", 0), ("root 0", 0), ("root 0 ", 0), ("root 0 1", 0), ("root 0 1.", 0),
    ("root 0 .1", 0), ("root 0 .", 0), ("root  0 1.1", 0), (" root 0 1.1", 0), ("root 0 1.1 ", 0),
    ("root 0  1.1", 0), ("Root 0 1.1", 0), ("root 1 1.1; opener 0 2.0 0.0; name 0 x 1.0", 0), ("root 00 1.1", 0),
    ("root -0 1.1", 0), ("root +0 1.1", 0), ("root 0 1.1.1", 0), ("root 0 1,1", 0), ("root 0 01.1", 0),
    ("root 0 1.01", 0), ("root 0 -1.1", 0), ("root 0 1. 1", 0), ("root 0 a.1", 0), ("root 0 1.a", 0),
    ("root 0 1.1 0.0", 0), ("root 0 x 1.1", 0), ("root 0 10000.1", 0), ("root 0 1.10000", 0), ("root 0 00001.1", 0),
    ("root 0 \u00b2.1", 0), ("root 0 \u0661.1", 0), ("root x 1.1", 0), ("root 0\n1.1", 0), ("root 0 1.1\n", 0),
    ("root 0 1.1;", 0), (OF_X.replace("; ", ";"), 0), (OF_X.replace("; ", " ; "), 0), (OF_X.replace("; ", ", "), 0),
    (OF_X.replace(";", ""), 0), (OF_X + ";", 2), (OF_X + "; ", 3), ("; " + OF_X, 0), (OF_X.replace("; ", "; ; "), 1),
    (OF_X.replace("; ", ";  "), 1), (OF_X.replace("opener 0", "opener"), 1), (OF_X.replace("opener 0", "opener 01"), 1),
    (OF_X.replace("opener 0", "opener 10000"), 1), (OF_X.replace("opener", "open"), 1),
    (OF_X.replace(" 2.0 0.0", " 2.0"), 1), (OF_X.replace(" 2.0 0.0", " 2.0 0.0 0.0"), 1),
    (OF_X.replace(" 2.0 0.0", " x 2.0 0.0"), 1), (OF_X.replace(" x ", " "), 2), (OF_X.replace(" x ", "  "), 2),
    (OF_X.replace(" x ", " abcdefghi "), 2), (OF_X.replace(" x ", " X "), 2), (OF_X.replace(" x ", " x1 "), 2),
    (OF_X.replace(" x ", " x y "), 2), (OF_X.replace("name 0", "name 1"), 2), (OF_X.replace("x 1.0", "x"), 2),
    (OF_X.replace("name 0 x", "name x 0"), 2), ("root 0 1.0; end 1 0.0", 1), ("root 0 1.0; end 0", 1),
    ("name", 0), ("name 0", 0), ("name 0 x", 0), ("root 0 1.0; name 0", 1), ("root 0 1.0; name 0 0.0", 1),
    ("root 0 1.0; name 0 x 0.0 0.0", 1), ("root 0 1", 0), ("root 0 1.0; end 0 0", 1),
    ("root 0 1.0; end 0 x 0.0", 1), ("root 0 1.0; fun 0 0.0 1.2", 1), ("root 0 1.0; put 0 0.0 1.2 1.1 1.0", 1),
    # Of several the first one.
    ("root 0 1.0; end 1 0.0; x; y", 1), ("root 0 7.7; x", 1)]

# Texts of rows that are not those of a net, or not numbered as by the walk.
NO_NETS = [
    # Roots: none, another one, not the first.
    "name 0 x 0.0", "opener 0 1.0 1.1; opener 0 0.0 0.1", "root 0 1.0; root 0 0.0", "end 0 1.0; root 0 0.0",
    "root 0 1.1; put 0 2.0 0.0 3.0; root 0 1.0; end 0 1.2", "name 0 x 1.0; root 0 0.0",
    # What can't be come to from the root.
    "root 0 1.0; end 0 0.0; end 0 3.0; end 0 2.0", "root 0 1.0; end 0 0.0; opener 0 2.1 2.0",
    # Numbers that are not those of the walk.
    "root 0 2.1; name 0 x 2.0; opener 0 1.0 0.0", "root 0 1.1; put 0 3.0 0.0 2.0; name 0 x 1.2; name 0 y 1.0",
    "root 0 2.0; end 0 1.0; end 0 0.0",
    # Knots and hooks that there are none.
    "root 0 0.1", "root 0 1.0", "root 0 1.1; end 0 0.0", "root 0 1.0; end 0 0.1", "root 0 1.2; opener 0 0.0 0.0",
    "root 0 1.9999; end 0 0.0", "root 0 9999.0; end 0 0.0", "root 0 1.0; end 0 9999.9999", "root 0 1.3; end 0 0.0",
    # Ties that the other hook doesn't answer.
    "root 0 1.1; opener 0 2.0 0.0; name 0 x 1.1", "root 0 1.0; opener 0 2.0 0.0; name 0 x 1.0",
    "root 0 1.1; put 0 2.0 0.0 2.0; name 0 x 1.0", "root 0 1.0; fun 0 0.0 2.1 2.0; opener 0 1.1 1.2",
    "root 0 1.1; opener 0 0.0 0.0", "root 0 1.1; put 0 2.0 0.0 3.0; name 0 x 1.0; name 0 x 1.0",
    # A hook that is tied to itself.
    "root 0 0.0", "root 0 1.1; opener 0 1.0 0.0", "root 0 1.0; fun 0 0.0 1.1 1.2", "root 0 1.0; box 7 0.0 1.1"]


class TextCase(RefusalCase):
    def no_text(self, at, thing):
        self.assertEqual(self.refused(NoText, read_net, thing).at, at, repr(thing))

    def some_nets(self, many, seed=1, every=5):
        """Nets of terms behind up to so many meetings by chance."""
        chance = random.Random(seed)
        for tree in samples.ending()[::every]:
            net = Net(trees.built(tree))
            for _ in range(chance.randint(0, many)):
                if net.meetings():
                    net.fire(chance.choice(net.meetings()))
            yield net

    def numbered(self, net):
        """The dict from the net's numbers to those of its text, told in the order of the walk."""
        kinds = {row[0]: row[1] for row in net.knots()}
        tied = {}
        for one, its, other, hook in net.ties():
            tied[one, its], tied[other, hook] = (other, hook), (one, its)
        walked = [0]
        for number in walked:
            for hook in range(KINDS[kinds[number]]):
                if tied[number, hook][0] not in walked:
                    walked.append(tied[number, hook][0])
        return {number: place for place, number in enumerate(walked)}


class TestInterface(TextCase):
    def test_defined_in_the_file(self):
        for word in ["net_text", "read_net"]:
            self.assertEqual(getattr(nettexts, word).__module__, "fanweave.nettexts")
        self.assertEqual(net_text(net=read_net(text=OF_X)), OF_X)
        self.assertIs(type(read_net(OF_X)), Net)
        self.assertIs(type(net_text(Net(name("x")))), str)


class TestNetText(TextCase):
    def test_told_texts(self):
        for text, wanted in [
                ("x", OF_X), ("[x] x", "root 0 1.0; fun 0 0.0 2.1 2.0; opener 0 1.2 1.1"),
                ("[x] y", "root 0 1.0; fun 0 0.0 2.1 3.0; opener 0 4.0 1.1; end 0 1.2; name 0 y 2.0"),
                ("y word", "root 0 1.1; put 0 2.1 0.0 3.1; opener 0 4.0 1.0; opener 1 5.1 1.2; name 0 y 2.0; "
                           "box 0 6.0 3.0; name 0 word 5.0")]:
            self.assertEqual(net_text(Net(read_term(text))), wanted)

    def test_alike_but_for_numbers(self):
        term = read_term("([x] y x x) (([z] z) w) (([u] u) v)")
        one, other = Net(term), Net(term)
        for net, order in [(one, 1), (other, -1)]:
            done = 0
            # Both turns that are there from the first and stand apart, in one order and the other.
            for pair in net.meetings()[::order]:
                self.assertEqual(net.fire(pair), "turn")
                done += 1
            self.assertEqual(done, 3)
        self.assertEqual(net_text(one), net_text(other))

    def test_of_knots_that_hold_one_another(self):
        for tree in samples.ending()[::9]:
            self.assertEqual(net_text(Net(trees.built(tree))), knots.text_of(knots.net_of(tree)))

    def test_what_cannot_be_come_to_is_left_out(self):
        net = Net(read_term("([x] y) (([z] z) w)"))
        net.fire([pair for pair in net.meetings() if self.where(net, pair) == [""]][0])
        text = net_text(net)
        self.assertEqual(text, "root 0 1.1; opener 0 2.0 0.0; name 0 y 1.0")
        self.assertGreater(len(net.knots()), 3)
        # Though it goes on there.
        net.fire(net.meetings()[0])
        self.assertEqual(net_text(net), text)

    def where(self, net, pair):
        kinds = {row[0]: row[1] for row in net.knots()}
        return net.where([number for number in pair if kinds[number] == "put"][0])

    def test_as_lists_tell(self):
        for net in self.some_nets(20):
            numbers = self.numbered(net)
            tied = {}
            for one, its, other, hook in net.ties():
                tied[one, its], tied[other, hook] = (other, hook), (one, its)
            rows = {row[0]: row for row in net.knots()}
            wanted = []
            for number in numbers:
                _, kind, level, word = rows[number]
                words = [kind, str(level)] + ([word] if word else [])
                for hook in range(KINDS[kind]):
                    other, its = tied[number, hook]
                    words.append(f"{numbers[other]}.{its}")
                wanted.append(" ".join(words))
            self.assertEqual(net_text(net), "; ".join(wanted))


class TestReadNet(TextCase):
    def test_there_and_back(self):
        for net in self.some_nets(25):
            text = net_text(net)
            told = read_net(text)
            self.assertEqual(net_text(told), text)
            self.assertEqual(told.read(), net.read())
            numbers = self.numbered(net)
            rows = [(numbers[number], kind, level, word) for number, kind, level, word in net.knots()
                    if number in numbers]
            self.assertEqual(told.knots(), sorted(rows))
            ties = [sorted([(numbers[one], its), (numbers[other], hook)]) for one, its, other, hook in net.ties()
                    if one in numbers]
            self.assertEqual(told.ties(), sorted(one + other for one, other in ties))
            pairs = [tuple(sorted([numbers[one], numbers[other]])) for one, other in net.meetings() if one in numbers]
            self.assertEqual(told.meetings(), sorted(pairs))

    def test_goes_on_as_the_one_of_which_it_is_the_text(self):
        chance = random.Random(2)
        for net in self.some_nets(10, seed=3, every=8):
            told = read_net(net_text(net))
            self.assertEqual(net_text(told.copy()), net_text(net))
            for _ in range(25):
                numbers = self.numbered(net)
                pairs = [pair for pair in net.meetings() if pair[0] in numbers]
                if not pairs:
                    break
                one, other = chance.choice(pairs)
                its = self.numbered(told)
                back = {number: mine for mine, number in its.items()}
                pair = tuple(sorted([back[numbers[one]], back[numbers[other]]]))
                # The same one of both, and by numbers that were never given.
                given = max(row[0] for row in told.knots())
                self.assertEqual(told.fire(pair), net.fire((one, other)))
                self.assertFalse([row for row in told.knots() if row[0] in pair])
                self.assertTrue(all(row[0] <= given or row[0] > max(pair) for row in told.knots()))
                self.assertEqual(net_text(told), net_text(net))
                self.assertEqual(told.read(), net.read())

    def test_numbers_go_on_behind_the_rows(self):
        text = "root 0 1.1; opener 0 2.0 0.0; fun 1 1.0 2.2 2.1"
        net = read_net(text)
        self.assertEqual(net.fire((1, 2)), "move")
        self.assertEqual(sorted(row[0] for row in net.knots()), [0, 3, 4, 5])
        self.refused(NoMeeting, net.fire, (1, 2))

    def test_of_sharers_along_their_way(self):
        for text in ["([x] x x) (([y] y) ([z] z))", "([x] y (x v) (x w)) ([u] ([z] z z) v)"]:
            machine = Sharer(read_term(text))
            while not machine.done():
                told = net_text(machine.net())
                self.assertEqual(net_text(read_net(told)), told)
                self.assertEqual(read_net(told).read(), machine.net().read())
                machine.step()
            self.assertEqual(read_net(net_text(machine.net())).read(), machine.worth())

    def test_nets_of_no_term(self):
        for text in ["root 0 1.0; end 0 0.0", "root 0 1.0; name 0 longword 0.0", "root 0 1.1; fork 9999 1.2 0.0 1.0",
                     "root 0 1.0; put 7 0.0 1.2 1.1", "root 0 1.1; box 0 2.0 0.0; end 0 1.0",
                     "root 0 1.1; put 3 2.0 0.0 3.0; fork 3 1.0 3.1 3.2; fun 5 1.2 2.1 2.2"]:
            net = read_net(text)
            self.assertEqual(net_text(net), text)
            self.assertEqual(net_text(net.copy()), text)
            self.assertEqual(len(net.knots()), text.count(";") + 1)
            self.assertEqual(2 * len(net.ties()), text.count("."))


class TestNoText(TextCase):
    def test_of_anything(self):
        for thing in samples.NO_TEXTS + samples.NO_WHOLE_NUMBERS + [[OF_X], OF_X.encode(), Net(name("x"))]:
            if not isinstance(thing, str):
                self.no_text(0, thing)

    def test_rows_that_are_none(self):
        for text, at in NO_ROWS:
            self.no_text(at, text)

    def test_rows_of_no_net(self):
        for text in NO_NETS:
            self.no_text(text.count("; ") + 1, text)

    def test_rows_come_ahead_of_what_they_are_together(self):
        for text in NO_NETS:
            self.no_text(text.count("; ") + 1, text + "; x")
            self.no_text(0, "x; " + text)
            self.no_text(text.count("; ") + 2, text + "; root 0 7.7")

    def test_one_sign_changed(self):
        chance = random.Random(4)
        known = 0
        for net in self.some_nets(6, seed=5, every=20):
            text = net_text(net)
            for _ in range(30):
                at = chance.randrange(len(text))
                other = text[:at] + chance.choice("0123456789. ;xabez") + text[at + 1:]
                try:
                    told = read_net(other)
                except NoText as error:
                    self.assertLessEqual(error.at, other.count("; ") + 1)
                else:
                    # Another level, word or kind: but then just what is written.
                    self.assertEqual(net_text(told), other)
                    known += 1
        self.assertGreater(known, 20)

    def test_words_of_any_length(self):
        for word in ["a", "z", "abcdefgh"]:
            text = OF_X.replace(" x ", f" {word} ")
            self.assertEqual(net_text(read_net(text)), text)
        for level in ["0", "1", "10", "9999"]:
            text = OF_X.replace("opener 0", f"opener {level}")
            self.assertEqual(read_net(text).knots()[1], (1, "opener", int(level), None))


class TestBounds(TextCase):
    def test_a_net_of_4600_knots(self):
        term = name("x")
        for _ in range(9):
            term = put(put(name("y"), term), term)
        net = Net(put(fun("v", put(name("v"), name("v"))), term))
        text = net_text(net)
        told = read_net(text)
        self.assertEqual(net_text(told), text)
        self.assertEqual(len(told.knots()), len(net.knots()))
        self.assertEqual(told.fire(told.meetings()[0]), "turn")
        self.assertEqual(told.read(), normal(put(fun("v", put(name("v"), name("v"))), term))[0])


if __name__ == "__main__":
    unittest.main()
