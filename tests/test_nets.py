"""Points 2, 3, 4 and 16 to 20: nets, their meetings, and the terms that are read from them."""

import random
import unittest

from fanweave import nets
from fanweave.errors import NoKnot, NoMeeting
from fanweave.nets import Net
from fanweave.nettexts import net_text, read_net
from fanweave.plain import all_turned, normal, redexes
from fanweave.terms import Term, fun, kind_at, name, put
from fanweave.texts import read_term
from fanweave.webs import Web
from tests import knots, samples, trees
from tests.cases import RefusalCase

# Terms with the texts of their new nets.
NETS = [
    ("x", "root 0 1.1; opener 0 2.0 0.0; name 0 x 1.0"),
    ("[x] x", "root 0 1.0; fun 0 0.0 2.1 2.0; opener 0 1.2 1.1"),
    # A name that is nowhere in the body has an end.
    ("[x] y", "root 0 1.0; fun 0 0.0 2.1 3.0; opener 0 4.0 1.1; end 0 1.2; name 0 y 2.0"),
    ("[x] [x] x", "root 0 1.0; fun 0 0.0 2.0 3.0; fun 0 1.1 4.1 4.0; end 0 1.2; opener 0 2.2 2.1"),
    ("x y", "root 0 1.1; put 0 2.1 0.0 3.1; opener 0 4.0 1.0; opener 1 5.1 1.2; name 0 x 2.0; box 0 6.0 3.0; "
            "name 0 y 5.0"),
    # A word in the function and the argument of a put.
    ("x x", "root 0 1.1; put 0 2.1 0.0 3.1; opener 0 4.1 1.0; opener 1 5.1 1.2; fork 0 6.0 2.0 5.0; box 0 4.2 3.0; "
            "name 0 x 4.0"),
    # Arguments within one another, their levels, and a box for each of them.
    ("x (y z)", "root 0 1.1; put 0 2.1 0.0 3.1; opener 0 4.0 1.0; put 1 5.1 1.2 6.1; name 0 x 2.0; "
                "opener 1 7.1 3.0; opener 2 8.1 3.2; box 0 9.0 5.0; box 1 10.1 6.0; name 0 y 7.0; box 0 11.0 8.0; "
                "name 0 z 10.0"),
    ("[x] x (x x)", "root 0 1.0; fun 0 0.0 2.1 3.0; put 0 4.1 1.1 5.1; fork 0 1.2 4.0 6.0; opener 0 3.1 2.0; "
                    "put 1 7.1 2.2 8.1; box 0 3.2 9.0; opener 1 9.1 5.0; opener 2 10.1 5.2; fork 1 6.1 7.0 10.0; "
                    "box 1 9.2 8.0"),
    ("([x] x) y", "root 0 1.1; put 0 2.0 0.0 3.1; fun 0 1.0 4.1 4.0; opener 1 5.1 1.2; opener 0 2.2 2.1; "
                  "box 0 6.0 3.0; name 0 y 5.0")]

KINDS = {"root": 1, "name": 1, "end": 1, "put": 3, "fun": 3, "fork": 3, "opener": 2, "box": 2}

# Nets by their texts in which hooks that are spoken of are tied to one another, the meeting, the text behind it.
TIED_TO_ONE_ANOTHER = [
    # The body is the function's name itself: what is handed comes to the answer.
    ("root 0 1.1; put 0 2.0 0.0 3.0; fun 0 1.0 2.2 2.1; name 0 x 1.2", (1, 2), "turn", "root 0 1.0; name 0 x 0.0"),
    # The put's answer is its own argument.
    ("root 0 1.1; fun 0 2.0 0.0 3.0; put 0 1.0 2.2 2.1; name 0 x 1.2", (1, 2), "turn", "root 0 1.0; name 0 x 0.0"),
    # Across: the answer is tied to the name, the argument to something else.
    ("root 0 1.1; fun 0 2.0 0.0 2.1; put 0 1.0 1.2 3.0; name 0 x 2.2", (1, 2), "turn", "root 0 1.0; name 0 x 0.0"),
    ("root 0 1.1; fork 2 2.0 0.0 2.1; fork 2 1.0 1.2 3.0; name 0 x 2.2", (1, 2), "move", "root 0 1.0; name 0 x 0.0"),
    # Going through: the greater one's body is its name.
    ("root 0 1.1; opener 0 2.0 0.0; fun 1 1.0 2.2 2.1", (1, 2), "move",
     "root 0 1.0; fun 0 0.0 2.1 3.1; opener 0 3.0 1.1; opener 0 2.0 1.2"),
    # The lesser one's second hook is tied to the greater one's second.
    ("root 0 1.2; fun 1 2.0 2.1 0.0; opener 0 1.0 1.1", (1, 2), "move",
     "root 0 1.0; opener 0 0.0 2.2; fun 0 3.0 3.1 1.1; opener 0 2.0 2.1"),
    # A fork's second hook is tied to its third.
    ("root 0 1.1; box 1 2.0 0.0; fork 0 1.0 2.2 2.1", (1, 2), "move",
     "root 0 1.0; fork 0 0.0 2.1 3.1; box 1 3.0 1.1; box 1 2.0 1.2")]


class NetCase(RefusalCase):
    def state(self, net):
        """All that a net tells of its knots, ties and meetings."""
        return net.knots(), net.ties(), net.meetings()

    def check_form(self, net):
        """The lists of a net have the told form, and each hook of each knot stands in one tie."""
        rows = net.knots()
        self.assertEqual(rows, sorted(rows, key=lambda row: row[0]))
        for number, kind, level, word in rows:
            self.assertTrue(type(number) is int and type(level) is int and level >= 0)
            self.assertTrue(level == 0 or kind not in ("root", "name", "end"))
            self.assertEqual(type(word), str if kind == "name" else type(None))
        self.assertEqual([(number, kind) for number, kind, _, _ in rows if kind == "root" or number == 0],
                         [(0, "root")])
        hooks = [(number, hook) for number, kind, _, _ in rows for hook in range(KINDS[kind])]
        ends = [end for one, its, other, hook in net.ties() for end in ((one, its), (other, hook))]
        self.assertEqual(sorted(ends), hooks)
        self.assertEqual(net.ties(), sorted(net.ties()))
        for one, its, other, hook in net.ties():
            self.assertLess((one, its), (other, hook))

    def check_meetings(self, net):
        """The meetings are just the chiefs tied to one another, of knots other than ends, roots and names."""
        kinds = {number: kind for number, kind, _, _ in net.knots()}
        wanted = [(one, other) for one, its, other, hook in net.ties()
                  if its == hook == 0 and not {kinds[one], kinds[other]} & {"end", "root", "name"}]
        self.assertEqual(net.meetings(), wanted)

    def put_of(self, net, pair):
        """The number of the put of a turn, None of a move."""
        kinds = {number: kind for number, kind, _, _ in net.knots()}
        if sorted(kinds[number] for number in pair) != ["fun", "put"]:
            return None
        return [number for number in pair if kinds[number] == "put"][0]

    def walked(self, net):
        """The list of the numbers of knots in the order of the net's text."""
        kinds = {number: kind for number, kind, _, _ in net.knots()}
        tied = {}
        for one, its, other, hook in net.ties():
            tied[one, its], tied[other, hook] = other, one
        found = [0]
        for number in found:
            for hook in range(KINDS[kinds[number]]):
                if tied[number, hook] not in found:
                    found.append(tied[number, hook])
        return found


class TestInterface(NetCase):
    def test_class_has_its_methods_itself(self):
        self.assertEqual((Net.__module__, nets.Net), ("fanweave.nets", Net))
        for method in ["meetings", "knots", "ties", "fire", "read", "where", "copy"]:
            self.assertIn(method, vars(Net))

    def test_arguments_by_name(self):
        net = Net(term=read_term("([x] x) y"))
        pair = net.meetings()[0]
        self.assertEqual(net.where(number=self.put_of(net, pair)), [""])
        self.assertEqual(net.fire(pair=pair), "turn")

    def test_kinds_of_values(self):
        net = Net(read_term("([x] x x) y"))
        for told in (net.knots(), net.ties(), net.meetings()):
            self.assertIs(type(told), list)
            self.assertEqual({type(row) for row in told}, {tuple})
        self.assertIs(type(net.read()), Term)
        self.assertIs(type(net.copy()), Net)
        put_number = self.put_of(net, net.meetings()[0])
        self.assertIs(type(net.where(put_number)), list)
        self.assertIs(type(net.fire(net.meetings()[0])), str)

    def test_lists_are_the_askers_own(self):
        net = Net(read_term("([x] x x) y"))
        state = self.state(net)
        put_number = self.put_of(net, net.meetings()[0])
        for told in (net.knots(), net.ties(), net.meetings(), net.where(put_number)):
            told.clear()
        self.assertEqual(self.state(net), state)
        self.assertEqual(net.where(put_number), [""])


class TestNewNets(NetCase):
    def test_told_nets(self):
        for text, wanted in NETS:
            self.assertEqual(net_text(Net(read_term(text))), wanted, text)

    def test_told_lists(self):
        net = Net(name("x"))
        rows = net.knots()
        self.assertEqual(rows[0], (0, "root", 0, None))
        self.assertEqual(sorted(rows[1:], key=lambda row: row[1]), sorted(
            [(1, "name", 0, "x"), (2, "opener", 0, None)] if rows[1][1] == "name"
            else [(2, "name", 0, "x"), (1, "opener", 0, None)], key=lambda row: row[1]))
        opener = [row[0] for row in rows if row[1] == "opener"][0]
        self.assertEqual(net.ties(), sorted([(0, 0, opener, 1), (1, 0, 2, 0)]))
        self.assertEqual(net.meetings(), [])

    def test_numbers_without_a_gap(self):
        for text, _ in NETS:
            rows = Net(read_term(text)).knots()
            self.assertEqual([row[0] for row in rows], list(range(len(rows))))

    def test_as_knots_that_hold_one_another(self):
        for tree in trees.trees_to(6, ("a", "b")) + list(samples.ending()[::3]):
            net = Net(trees.built(tree))
            self.assertEqual(net_text(net), knots.text_of(knots.net_of(tree)), tree)
            self.check_form(net)
            self.check_meetings(net)
            self.assertEqual(len(self.walked(net)), len(net.knots()))

    def test_new_nets_read_back(self):
        for tree in trees.trees_to(6, ("a", "b")) + list(samples.ending()[::3]):
            term = trees.built(tree)
            self.assertEqual(Net(term).read(), term)

    def test_where_in_a_new_net(self):
        for tree in samples.ending()[::5]:
            term = trees.built(tree)
            net = Net(term)
            told = [net.where(number) for number, kind, _, _ in net.knots() if kind == "put"]
            addresses = [address for address, part in trees.parts_of(tree) if part[0] == "put"]
            self.assertEqual(sorted(told), [[address] for address in sorted(addresses)])

    def test_meetings_of_a_new_net_are_the_redexes(self):
        for tree in samples.ending()[::5]:
            term = trees.built(tree)
            net = Net(term)
            puts = [self.put_of(net, pair) for pair in net.meetings()]
            self.assertNotIn(None, puts)
            self.assertEqual(sorted(net.where(number)[0] for number in puts), redexes(term))


class TestFire(NetCase):
    def test_a_turn(self):
        net = Net(read_term("([x] x) y"))
        self.assertEqual(net.fire(net.meetings()[0]), "turn")
        self.assertEqual(net_text(net), "root 0 1.1; opener 0 2.1 0.0; opener 1 3.1 1.0; box 0 4.0 2.0; name 0 y 3.0")
        self.assertEqual(net.read(), name("y"))
        self.assertEqual(net.meetings(), [])

    def test_a_turn_at_which_nobody_names_the_argument(self):
        net = Net(read_term("([x] y) (([z] z) w)"))
        inner = [pair for pair in net.meetings() if net.where(self.put_of(net, pair)) == ["g"]][0]
        outer = [pair for pair in net.meetings() if pair != inner][0]
        self.assertEqual(net.fire(outer), "turn")
        # What can no more be come to from the root stays, is told and meets.
        self.assertEqual(net.meetings(), [inner])
        self.assertGreater(len(net.knots()), len(self.walked(net)))
        self.assertEqual(net.where(self.put_of(net, inner)), [])
        self.assertEqual(net.read(), name("y"))
        self.check_form(net)
        self.assertEqual(net.fire(inner), "turn")
        self.assertEqual(net.read(), name("y"))
        self.check_form(net)

    def test_hooks_that_are_tied_to_one_another(self):
        for text, pair, deed, wanted in TIED_TO_ONE_ANOTHER:
            net = read_net(text)
            self.assertEqual(net.meetings(), [pair])
            self.assertEqual(net.fire(pair), deed)
            self.assertEqual(net_text(net), wanted)
            self.check_form(net)

    def test_hooks_that_are_tied_in_a_ring_go(self):
        # What is tied to nothing but hooks of the two is gone with them.
        for kinds, ties in [(("opener", "opener"), [(1, 5)]), (("fork", "fork"), [(1, 2), (5, 6)]),
                            (("fork", "fork"), [(1, 6), (2, 5)]), (("put", "fun"), [(1, 5), (2, 6)])]:
            web = Web()
            for kind in kinds:
                web.new_knot(kind, 3)
            web.tie(0, 4)
            for one, other in ties:
                web.tie(one, other)
            web.fire(0, 1)
            self.assertEqual((web.kinds, web.tied), ({}, {}))

    def test_levels_when_one_goes_through(self):
        for kind, level, many in [("fork", 4, 2), ("opener", 3, 1), ("box", 5, 1)]:
            for other in ["put", "fun", "fork", "opener", "box"]:
                web = Web()
                web.tie(4 * web.new_knot(kind, 2), 4 * web.new_knot(other, 4))
                for hook in [1, 2, 5, 6]:
                    web.tie(hook, 4 * web.new_knot("end", 0))
                self.assertEqual(web.fire(0, 1), "move")
                rows = [(web.kinds[knot], web.levels[knot]) for knot in web.kinds]
                wanted = [(other, level)] * many + [(kind, 2)] * (KINDS[other] - 1) + [("end", 0)] * 4
                self.assertEqual(sorted(rows), sorted(wanted))

    def test_numbers_are_new_ones(self):
        chance = random.Random(1)
        for tree in samples.ending()[::9]:
            net = Net(trees.built(tree))
            given = {row[0] for row in net.knots()}
            for _ in range(40):
                if not net.meetings():
                    break
                pair = chance.choice(net.meetings())
                ahead = {row[0]: row for row in net.knots()}
                deed = net.fire(pair)
                self.check_form(net)
                self.check_meetings(net)
                behind = {row[0]: row for row in net.knots()}
                self.assertFalse(set(pair) & set(behind))
                new = set(behind) - set(ahead)
                self.assertFalse(new & given)
                given |= new
                self.assertTrue(new == set() or min(new) > max(ahead))
                self.assertEqual({number: ahead[number] for number in set(ahead) - set(pair)},
                                 {number: behind[number] for number in set(behind) - new})
                self.check_new(deed, [ahead[number] for number in pair], [behind[number] for number in new])

    def check_new(self, deed, pair, new):
        """The kinds and levels of what a meeting makes."""
        lesser, greater = sorted(pair, key=lambda row: row[2])
        wanted = []
        if lesser[2] < greater[2]:
            by = {"fork": 0, "opener": -1, "box": 1}[lesser[1]]
            wanted = [(greater[1], greater[2] + by)] * (KINDS[lesser[1]] - 1)
            wanted += [lesser[1:3]] * (KINDS[greater[1]] - 1)
        self.assertEqual(sorted(row[1:3] for row in new), sorted(wanted))
        self.assertEqual(deed, "turn" if {lesser[1], greater[1]} == {"put", "fun"} else "move")

    def test_as_knots_that_hold_one_another(self):
        chance = random.Random(2)
        deeds = []
        for tree in samples.ending()[::2]:
            root = knots.net_of(tree)
            net = Net(trees.built(tree))
            for _ in range(25):
                told = knots.meetings(root)
                if not told:
                    break
                one, other = chance.choice(told)
                walked = self.walked(net)
                pair = tuple(sorted([walked[one], walked[other]]))
                found = knots.walk(root)
                deeds.append(knots.fire(found[one], found[other]))
                self.assertEqual(net.fire(pair), deeds[-1])
                self.assertEqual(net_text(net), knots.text_of(root))
        self.assertGreater(deeds.count("turn"), 400)
        self.assertGreater(deeds.count("move"), 2000)


class TestNoMeeting(NetCase):
    def test_of_anything(self):
        net = Net(read_term("([x] x x) (([y] y) z)"))
        state = self.state(net)
        things = samples.NO_TEXTS + samples.NO_WHOLE_NUMBERS + ["ab", "01", (), (1,), (1, 2, 3), [1, 2], (None, None)]
        things += [list(pair) for pair in net.meetings()] + [pair[::-1] for pair in net.meetings()]
        things += [pair + (0,) for pair in net.meetings()] + [str(pair) for pair in net.meetings()]
        things += [(float(one), other) for one, other in net.meetings()]
        things += [(one, (other,)) for one, other in net.meetings()] + [{one, other} for one, other in net.meetings()]
        things += [(samples.Agreeing(), samples.Agreeing()), (0, samples.Agreeing()), samples.Agreeing()]
        things += [(thing, 2) for thing in samples.NO_TEXTS] + [(1, thing) for thing in samples.NO_TEXTS]
        for thing in things:
            if type(thing) is not tuple or thing not in net.meetings():
                self.refused(NoMeeting, net.fire, thing)
        self.assertEqual(self.state(net), state)

    def test_all_other_pairs_of_numbers(self):
        net = Net(read_term("([x] x x) (([y] y) z)"))
        state = self.state(net)
        for one in range(-2, 30):
            for other in range(-2, 30):
                if (one, other) not in net.meetings():
                    self.refused(NoMeeting, net.fire, (one, other))
        self.assertEqual(self.state(net), state)

    def test_truths_are_no_numbers(self):
        found = 0
        for tree in samples.ending():
            net = Net(trees.built(tree))
            for one, other in net.meetings():
                for pair in [(True, other)] * (one == 1) + [(one, True)] * (other == 1) + [(False, True)]:
                    self.refused(NoMeeting, net.fire, pair)
                    found += one == 1
        self.assertGreater(found + self.by_text(), 0)

    def by_text(self):
        net = read_net("root 0 1.1; put 0 2.0 0.0 3.0; fun 0 1.0 2.2 2.1; name 0 x 1.2")
        self.assertEqual(net.meetings(), [(1, 2)])
        self.refused(NoMeeting, net.fire, (True, 2))
        self.refused(NoMeeting, net.fire, (2, True))
        self.assertEqual(net.fire((1, 2)), "turn")
        return 1

    def test_numbers_that_are_gone(self):
        net = Net(read_term("([x] x x) (([y] y) z)"))
        for _ in range(60):
            if not net.meetings():
                break
            pair = net.meetings()[-1]
            net.fire(pair)
            state = self.state(net)
            self.refused(NoMeeting, net.fire, pair)
            self.assertEqual(self.state(net), state)

    def test_a_net_without_meetings(self):
        for text in ["x", "[x] x", "x x", "[x] x (x y)"]:
            net = Net(read_term(text))
            self.assertEqual(net.meetings(), [])
            for pair in [(0, 1), (1, 2), (0, 2)]:
                self.refused(NoMeeting, net.fire, pair)


class TestRead(NetCase):
    def test_at_every_moment_whatever_is_done(self):
        chance = random.Random(3)
        turns = moves = many = none = 0
        for tree in samples.ending():
            term = trees.built(tree)
            net = Net(term)
            for _ in range(60):
                if not net.meetings() or len(term) > 300:
                    break
                pair = chance.choice(net.meetings())
                number = self.put_of(net, pair)
                if number is not None:
                    where = net.where(number)
                    term = all_turned(term, where)
                    many += len(where) > 1
                    none += len(where) == 0
                    turns += 1
                moves += number is None
                self.assertEqual(net.fire(pair), "move" if number is None else "turn")
                self.assertEqual(net.read(), term)
        self.assertGreater(min(turns, moves), 1000)
        self.assertGreater(min(many, none), 30)

    def test_where_of_all_puts_at_every_moment(self):
        chance = random.Random(4)
        for tree in samples.ending()[::6]:
            net = Net(trees.built(tree))
            for _ in range(30):
                self.check_where(net)
                if not net.meetings():
                    break
                net.fire(chance.choice(net.meetings()))

    def check_where(self, net):
        """Each put of the term that is read stands at just one number."""
        term = net.read()
        told = []
        for number, kind, _, _ in net.knots():
            if kind == "put":
                addresses = net.where(number)
                self.assertEqual(addresses, sorted(addresses))
                told.extend(addresses)
        for address in told:
            self.assertEqual(kind_at(term, address), "put")
        self.assertEqual(len(told), len(set(told)))
        self.assertEqual(len(told), len([part for part in term.parts if part == -2]))

    def test_read_as_by_recursion(self):
        chance = random.Random(5)
        for tree in samples.ending()[::6]:
            root = knots.net_of(tree)
            net = Net(trees.built(tree))
            for _ in range(20):
                told = knots.meetings(root)
                if not told:
                    break
                one, other = chance.choice(told)
                walked = self.walked(net)
                net.fire(tuple(sorted([walked[one], walked[other]])))
                found = knots.walk(root)
                knots.fire(found[one], found[other])
                seen = {}
                self.assertEqual(str(net.read()), trees.text_of(trees.told(knots.read(root.ties[0], seen=seen))))
                for place, knot in enumerate(knots.walk(root)):
                    if knot.kind == "put":
                        self.assertEqual(net.where(self.walked(net)[place]), sorted(seen.get(id(knot), [])))

    def test_to_the_end_is_the_worth(self):
        chance = random.Random(6)
        for tree in samples.ending()[::4]:
            term = trees.built(tree)
            net = Net(term)
            for _ in range(3000):
                pairs = net.meetings()
                if not pairs:
                    break
                net.fire(chance.choice(pairs))
            if not net.meetings():
                self.assertEqual(net.read(), normal(term)[0])


class TestNoKnot(NetCase):
    def test_of_anything(self):
        net = Net(read_term("([x] x x) (([y] y) z)"))
        state = self.state(net)
        puts = [number for number, kind, _, _ in net.knots() if kind == "put"]
        things = samples.NO_TEXTS[:3] + samples.NO_WHOLE_NUMBERS + ["1", (1,), [1], samples.Agreeing()]
        things += [float(number) for number in puts] + [str(number) for number in puts] + [(puts[0],), {puts[0]}]
        for thing in things:
            self.refused(NoKnot, net.where, thing)
        for number in range(-3, 40):
            if number not in puts:
                self.refused(NoKnot, net.where, number)
        self.assertEqual(self.state(net), state)

    def test_a_truth_where_1_is_a_put(self):
        net = read_net("root 0 1.1; put 0 2.0 0.0 3.0; fun 0 1.0 2.2 2.1; name 0 x 1.2")
        self.refused(NoKnot, net.where, True)
        self.assertEqual(net.where(1), [""])

    def test_a_put_that_is_gone(self):
        net = Net(read_term("([x] x) y"))
        pair = net.meetings()[0]
        number = self.put_of(net, pair)
        self.assertEqual(net.where(number), [""])
        net.fire(pair)
        self.refused(NoKnot, net.where, number)


class TestCopy(NetCase):
    def test_goes_on_alike_and_apart(self):
        chance = random.Random(7)
        for tree in samples.ending()[::8]:
            net = Net(trees.built(tree))
            for _ in range(12):
                twin = net.copy()
                state = self.state(net)
                self.assertEqual(self.state(twin), state)
                self.assertEqual(twin.read(), net.read())
                if not net.meetings():
                    break
                pair = chance.choice(net.meetings())
                deed = net.fire(pair)
                self.assertEqual(self.state(twin), state)
                self.assertEqual(twin.fire(pair), deed)
                # By the same numbers, also those of the new knots.
                self.assertEqual(self.state(twin), self.state(net))

    def test_what_is_done_at_the_copy_leaves_the_net(self):
        net = Net(read_term("([x] x x) (([y] y) z)"))
        net.fire(net.meetings()[0])
        state, term = self.state(net), net.read()
        twin = net.copy().copy()
        while twin.meetings():
            twin.fire(twin.meetings()[0])
        self.assertEqual((self.state(net), net.read()), (state, term))


class TestBounds(NetCase):
    def test_deep_terms(self):
        for term in [samples.deep_left(150), samples.deep_right(150), samples.deep_functions(150),
                     samples.deep_brackets(150), samples.deep_functions(400)]:
            net = Net(term)
            self.assertEqual(net.read(), term)
            worth = normal(term)[0]
            done = 0
            while net.meetings() and done < 300:
                net.fire(net.meetings()[0])
                done += 1
            while net.meetings():
                net.fire(net.meetings()[0])
            self.assertEqual(net.read(), worth)

    def test_a_net_of_5000_knots(self):
        term = name("x")
        for _ in range(9):
            term = put(put(name("y"), term), term)
        net = Net(term)
        self.assertGreater(len(net.knots()), 4500)
        self.assertEqual(net.read(), term)
        self.assertEqual(net.copy().ties(), net.ties())
        whole = Net(put(fun("v", put(name("v"), name("v"))), term))
        self.assertEqual(whole.fire(whole.meetings()[0]), "turn")
        self.assertEqual(whole.read(), put(term, term))


if __name__ == "__main__":
    unittest.main()
