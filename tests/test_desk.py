"""Points 2, 3, 24 and 25: a desk."""

import random
import unittest

from fanweave import desk
from fanweave.desk import Desk
from fanweave.errors import NoBack, NoLine, NoName, NoNet, NotDone, NoText, SpinError, TooLong
from fanweave.machines import Namer, Needer, Placer, Valuer
from fanweave.nets import Net
from fanweave.nettexts import net_text
from fanweave.papers import race
from fanweave.plain import normal
from fanweave.shapes import shape_of
from fanweave.sharer import Sharer
from fanweave.texts import read_term
from tests import samples, trees
from tests.cases import RefusalCase

KINDS = {"placer": Placer, "namer": Namer, "needer": Needer, "valuer": Valuer, "sharer": Sharer}
DOUBLED = "([x] x x) (([y] y) ([z] z))"
OMEGA = "([x] x x) ([x] x x)"

# What is no line, whatever is kept.
NO_LINES = [
    # First words.
    "", " ", "  ", "lets x y", "Let x y", "LET x y", "le x y", "x", "undone", "shaped x", "quit", " show x", " undo",
    "\tundo", "let\tx y", "ok", "run x", "step x", "tell", "nets x", "race,", "(x)", "[x] x",
    # How many words there are; a TERM without a sign.
    "let", "let x", "let x ", "show", "show x y", "show x ", "show  x", "drop", "drop x y", "drop x ", "make", "make m",
    "make m placer", "make m placer ", "go", "go m", "go m 1 1", "go m 1 ", "go  m 1", "go m  1", "end", "end m 1",
    "end m ", "worth", "worth m m", "turns", "turns m 0", "back", "back m", "back m 1 2", "twin", "twin m",
    "twin m n o", "twin m n ", "read", "read m x", "shape", "shape ", "net", "net m m", "net m ", "race", "race ",
    "undo ", "undo x", "undo undo", "undo 1",
    # Words.
    "let X x", "let x1 x", "let abcdefghi x", "let  x", "let [x] x", "let é x", "show X", "show abcdefghi", "show ",
    "drop 1", "drop ", "make M placer x", "make  placer x", "make 1 sharer x", "go M 1", "go 1 m", "end M", "end ",
    "worth m1", "turns -", "back M 1", "twin M n", "twin m N", "twin m abcdefghi", "twin  n", "twin m ", "read M",
    "net M", "net abcdefghi",
    # Kinds.
    "make m place x", "make m Placer x", "make m placers x", "make m  x", "make m machine x", "make m needer( x",
    "make placer m x",
    # Numbers.
    "go m x", "go m -1", "go m +1", "go m 1.0", "go m 01", "go m 00", "go m 2001", "go m 9999", "go m 10000", "go m ",
    "go m 1_0", "go m 1e1", "go m \u00b2", "go m \u0661", "go m 0x1", "back m x", "back m -1", "back m 001",
    "back m 2001", "back m 99999999999999999999", "back m ", "back m one", "go m True", "go m None", "go m 1\n"]


class DeskCase(RefusalCase):
    def told(self, machine_desk, *rows):
        """The desk answers each line as told, rows of a line and its answer."""
        for line, answer in rows:
            self.assertEqual(machine_desk.tell(line), answer, line)

    def new(self, *lines):
        """A desk that was told these lines."""
        made = Desk()
        for line in lines:
            made.tell(line)
        return made

    def state(self, machine_desk, words=("m", "n", "x", "y", "q")):
        """What a desk answers of what is kept by these words, without a change."""
        told = []
        for word in words:
            for line in ("show", "worth", "turns", "read", "net"):
                told.append(self.answer(machine_desk, f"{line} {word}"))
        return told

    def after(self, kind, steps):
        """How many turns a machine of DOUBLED has done behind so many steps, as a desk answers."""
        machine = KINDS[kind](read_term(DOUBLED))
        for _ in range(steps):
            machine.step()
        return str(machine.turns)

    def answer(self, machine_desk, line):
        """The answer, or the refusal with its fields."""
        try:
            return machine_desk.tell(line)
        except SpinError as error:
            return type(error), vars(error)


class TestInterface(DeskCase):
    def test_class_has_its_method_itself(self):
        self.assertEqual((Desk.__module__, desk.Desk), ("fanweave.desk", Desk))
        self.assertIn("tell", vars(Desk))
        self.assertEqual(Desk().tell(line="let x y"), "1")

    def test_answers_are_texts(self):
        made = Desk()
        for line in ["let x y z", "show x", f"make m sharer {DOUBLED}", "go m 1", "end m", "worth m", "turns m",
                     "back m 1", "twin m n", "read m", "shape x", "shape z z", "net m", "race x", "undo", "drop x"]:
            self.assertIs(type(made.tell(line)), str, line)


class TestTerms(DeskCase):
    def test_let_show_drop(self):
        made = Desk()
        self.told(made, ("let x y z", "3"), ("show x", "y z"), ("let id [w] w", "2"), ("show id", "[a] a"),
                  ("let x z", "1"), ("show x", "z"), ("drop x", "ok"))
        self.assertEqual(self.refused(NoName, made.tell, "show x").word, "x")
        self.assertEqual(self.refused(NoName, made.tell, "drop x").word, "x")
        self.told(made, ("show id", "[a] a"))

    def test_kept_terms_stand_in_terms(self):
        made = self.new("let x y z", "let id [w] w")
        self.told(made, ("let q x (id x)", "10"), ("show q", "y z (([a] a) (y z))"),
                  # Not for bound names, and free names stay free.
                  ("let r [x] x id", "5"), ("show r", "[a] a ([b] b)"),
                  ("let s [z] x z", "6"), ("show s", "[a] y z a"), ("show x", "y z"))

    def test_as_they_are_then(self):
        made = self.new("let x y", "let q x x", "let x z")
        self.told(made, ("show q", "y y"), ("show x", "z"), ("let q q x", "5"), ("show q", "y y z"),
                  ("drop x", "ok"), ("let r x q", "7"), ("show r", "x (y y z)"))

    def test_put_in_all_at_once(self):
        made = self.new("let x y", "let y x", "let z x y")
        # x stands for y, y for the y of then, that is x's: neither is put in anew.
        self.told(made, ("show y", "y"), ("show z", "y y"), ("let y w", "1"), ("let x y y", "3"),
                  ("let q x y", "5"), ("show q", "w w w"))
        made = self.new("let a b", "let b c")
        self.told(made, ("let q a b", "3"), ("show q", "b c"), ("let a a b", "3"), ("show a", "b c"))

    def test_its_own_elder_one(self):
        made = self.new("let x y")
        for parts in ["3", "7", "15", "31"]:
            self.assertEqual(made.tell("let x x x"), parts)
        self.assertEqual(len(read_term(made.tell("show x"))), 31)

    def test_in_every_line_with_a_term(self):
        made = self.new("let id [w] w", "let x y")
        self.told(made, ("make m placer id x", "ok"), ("end m", "y"), ("turns m", "1"), ("shape id", "(a > a)"),
                  ("race id (id x)", "2 2 2 2 2"), ("make m sharer id x", "ok"), ("read m", "([a] a) y"))

    def test_words_of_lines_and_machines(self):
        # All words are free as words, also first words and kinds.
        made = self.new("let let undo", "let show let", "make placer sharer [make] make let")
        self.told(made, ("show let", "undo"), ("show show", "undo"), ("read placer", "[a] a undo"))

    def test_a_term_and_a_machine_by_one_word(self):
        made = self.new("let x y", "make x placer x z")
        self.told(made, ("show x", "y"), ("end x", "y z"), ("drop x", "ok"), ("worth x", "y z"))
        self.assertEqual(self.refused(NoName, made.tell, "show x").word, "x")
        # A machine stands for no free name.
        self.told(made, ("let q x", "1"), ("show q", "x"))


class TestMachines(DeskCase):
    def test_all_kinds(self):
        for kind in KINDS:
            made = self.new(f"make m {kind} {DOUBLED}")
            machine = KINDS[kind](read_term(DOUBLED))
            self.told(made, ("turns m", "0"), ("go m 0", "0"))
            for number in [1, 2, 1, 0, 3]:
                for _ in range(number):
                    machine.step()
                self.told(made, (f"go m {number}", str(machine.turns)), ("turns m", str(machine.turns)))
            machine.run()
            self.told(made, ("go m 2000", str(machine.turns)), ("worth m", "[a] a"), ("end m", "[a] a"),
                      ("read m", "[a] a"), ("go m 5", str(machine.turns)), ("turns m", str(machine.turns)))

    def test_go_does_just_so_many_steps(self):
        made = self.new(f"make m placer {DOUBLED}")
        self.told(made, ("go m 4", "4"))
        # It is behind its last turn, but not yet done.
        self.refused(NotDone, made.tell, "worth m")
        self.told(made, ("go m 1", "4"), ("worth m", "[a] a"))
        made = self.new("make m valuer x")
        self.refused(NotDone, made.tell, "worth m")
        self.told(made, ("go m 1", "0"), ("worth m", "x"))

    def test_go_counts_moves_as_steps_of_a_sharer(self):
        made = self.new(f"make m sharer {DOUBLED}")
        machine = Sharer(read_term(DOUBLED))
        while not machine.done():
            machine.step()
            self.told(made, ("go m 1", str(machine.turns)), ("net m", net_text(machine.net())),
                      ("read m", str(machine.net().read())))
        self.told(made, (f"back m {machine.turns + machine.moves}", "ok"), ("turns m", "0"),
                  ("net m", net_text(Net(read_term(DOUBLED)))))

    def test_endless_terms(self):
        for kind in KINDS:
            made = self.new(f"make m {kind} {OMEGA}", "go m 3")
            state = self.state(made)
            error = self.refused(TooLong, made.tell, "end m")
            self.assertEqual((error.turns, error.moves), (None, 8000) if kind == "sharer" else (400, None))
            self.assertEqual(self.state(made), state)
        made = self.new(f"make m namer {OMEGA}")
        self.told(made, ("go m 2000", "2000"), ("back m 2000", "ok"), ("turns m", "0"))

    def test_end_worth_turns(self):
        for kind in KINDS:
            made = self.new(f"make m {kind} {DOUBLED}")
            self.refused(NotDone, made.tell, "worth m")
            machine = KINDS[kind](read_term(DOUBLED))
            machine.run()
            self.told(made, ("end m", "[a] a"), ("worth m", "[a] a"), ("turns m", str(machine.turns)))

    def test_back(self):
        for kind in KINDS:
            made = self.new(f"make m {kind} {DOUBLED}")
            self.refused(NoBack, made.tell, "back m 1")
            self.told(made, ("back m 0", "ok"), ("go m 2", self.after(kind, 2)))
            self.refused(NoBack, made.tell, "back m 3")
            self.told(made, ("back m 1", "ok"), ("turns m", self.after(kind, 1)), ("end m", "[a] a"),
                      ("back m 0", "ok"), ("worth m", "[a] a"), ("back m 1", "ok"))
            self.refused(NotDone, made.tell, "worth m")
            self.told(made, ("end m", "[a] a"))

    def test_twin(self):
        for kind in KINDS:
            made = self.new(f"make m {kind} {DOUBLED}", "go m 1")
            self.told(made, ("twin m n", "ok"), ("turns n", self.after(kind, 1)), ("end n", "[a] a"),
                      ("turns m", self.after(kind, 1)))
            self.refused(NotDone, made.tell, "worth m")
            self.told(made, ("back n 1", "ok"), ("end m", "[a] a"), ("twin m n", "ok"), ("worth n", "[a] a"),
                      ("twin m m", "ok"), ("worth m", "[a] a"))

    def test_read(self):
        for kind in KINDS:
            made = self.new(f"make m {kind} {DOUBLED}")
            if kind == "sharer":
                self.told(made, ("read m", "([a] a a) (([a] a) ([a] a))"), ("go m 1", "1"),
                          ("read m", "([a] a) ([a] a) (([a] a) ([a] a))"))
            else:
                self.refused(NotDone, made.tell, "read m")
            self.told(made, ("end m", "[a] a"), ("read m", "[a] a"))

    def test_net(self):
        for kind in KINDS:
            made = self.new(f"make m {kind} {DOUBLED}", "let m x")
            if kind == "sharer":
                self.told(made, ("net m", net_text(Net(read_term(DOUBLED)))))
            else:
                self.refused(NoNet, made.tell, "net m")
                made.tell("end m")
                self.refused(NoNet, made.tell, "net m")

    def test_make_in_the_stead_of_another_one(self):
        made = self.new("make m placer x", "end m", "make m sharer y")
        self.refused(NotDone, made.tell, "worth m")
        self.told(made, ("read m", "y"))

    def test_a_machine_keeps_its_term(self):
        made = self.new("let x y", "make m needer ([z] z) x", "let x w", "drop x")
        self.told(made, ("end m", "y"))


class TestShapesAndRaces(DeskCase):
    def test_shape(self):
        made = self.new("let id [w] w")
        self.told(made, ("shape [x] x", "(a > a)"), ("shape x x", "none"), ("shape x", "a"), ("shape id id", "(a > a)"),
                  ("shape [x] [y] x", "(a > (b > a))"), ("shape x id", "a"))
        for tree in samples.ending()[::40]:
            term = trees.built(tree)
            if len(str(term)) < 600:
                self.told(made, (f"shape {term}", shape_of(term) or "none"))

    def test_race(self):
        made = Desk()
        self.told(made, ("race x", "0 0 0 0 0"), (f"race {DOUBLED}", "4 4 3 3 3"), (f"race {OMEGA}", "- - - - -"),
                  (f"race ([x] y) ({OMEGA})", "1 1 1 - 1"))
        for tree in samples.ending()[::60]:
            term = trees.built(tree)
            counts = race(term).values()
            self.told(made, (f"race {term}", " ".join("-" if each is None else str(each) for each in counts)))


class TestUndo(DeskCase):
    def test_each_deed(self):
        for kind in KINDS:
            lines = ["let x y z", "let x x x", f"make m {kind} {DOUBLED}", "go m 2", "twin m n", "end n", "back m 1",
                     "drop x", "make n placer x", "end n", "twin m n", "go n 0", "back m 0", "let m x", "go m 1"]
            made = Desk()
            states = []
            for line in lines:
                states.append(self.state(made))
                made.tell(line)
            for line, state in zip(reversed(lines), reversed(states)):
                self.told(made, ("undo", line.split(" ")[0]))
                self.assertEqual(self.state(made), state, line)
            self.refused(NoBack, made.tell, "undo")

    def test_nothing_to_undo(self):
        made = Desk()
        self.refused(NoBack, made.tell, "undo")
        for line in ["shape x", "race x"]:
            made.tell(line)
            self.refused(NoBack, made.tell, "undo")
        made.tell("let x y")
        made.tell("show x")
        self.told(made, ("undo", "let"))
        self.refused(NoBack, made.tell, "undo")
        self.refused(NoName, made.tell, "show x")

    def test_lines_that_ask_are_not_undone(self):
        made = self.new(f"make m sharer {DOUBLED}", "go m 1", "turns m", "read m", "net m", "shape x", "race x",
                        "end m", "worth m", "turns m")
        self.told(made, ("undo", "end"), ("turns m", "1"), ("undo", "go"), ("turns m", "0"), ("undo", "make"))

    def test_refused_lines_are_not_undone(self):
        made = self.new("let x y", f"make m placer {OMEGA}", "go m 2")
        for line in ["end m", "back m 3", "worth m", "read m", "net m", "let x (", "make m sharer", "go q 1", "drop q",
                     "twin q m", "go m 2001", "let x ", "undo x"]:
            self.assertIsInstance(self.answer(made, line), tuple, line)
        self.told(made, ("undo", "go"), ("turns m", "0"), ("undo", "make"), ("undo", "let"))
        self.refused(NoBack, made.tell, "undo")

    def test_on_again_behind_an_undo(self):
        for kind in KINDS:
            made = self.new(f"make m {kind} {DOUBLED}", "go m 1")
            self.told(made, ("end m", "[a] a"), ("undo", "end"), ("turns m", "1"))
            self.refused(NotDone, made.tell, "worth m")
            self.told(made, ("go m 1", self.after(kind, 2)), ("undo", "go"), ("undo", "go"), ("turns m", "0"),
                      ("go m 2", self.after(kind, 2)), ("end m", "[a] a"), ("back m 2", "ok"), ("undo", "back"),
                      ("worth m", "[a] a"), ("undo", "end"), ("undo", "go"), ("undo", "make"))
            self.refused(NoName, made.tell, "turns m")

    def test_done_or_not_as_ahead(self):
        made = self.new("make m placer ([x] x) y", "go m 1")
        self.told(made, ("go m 1", "1"), ("worth m", "y"), ("undo", "go"))
        self.refused(NotDone, made.tell, "worth m")
        made = self.new("make m placer ([x] x) y", "end m")
        self.told(made, ("go m 3", "1"), ("back m 0", "ok"), ("undo", "back"), ("undo", "go"), ("worth m", "y"))

    def test_what_stood_there_comes_back(self):
        made = self.new(f"make m sharer {DOUBLED}", "go m 1", "twin m n", "make m placer x", "end m", "twin n m")
        self.told(made, ("undo", "twin"), ("worth m", "x"), ("undo", "end"), ("undo", "make"), ("turns m", "1"),
                  ("turns n", "1"), ("end m", "[a] a"), ("turns n", "1"), ("undo", "end"), ("undo", "twin"))
        self.refused(NoName, made.tell, "turns n")
        self.told(made, ("turns m", "1"))

    def test_by_chance_as_a_desk_that_was_never_told(self):
        chance = random.Random(1)
        for _ in range(25):
            made, lines = Desk(), []
            for _ in range(40):
                line = self.some_line(chance)
                answer = self.answer(made, line)
                if line == "undo":
                    self.assertEqual(answer, lines.pop().split(" ")[0] if lines else (NoBack, {}))
                elif isinstance(answer, str) and line.split(" ")[0] in ("let", "drop", "make", "go", "end", "back",
                                                                        "twin"):
                    lines.append(line)
            self.assertEqual(self.state(made), self.state(self.new(*lines)), lines)

    def some_line(self, chance):
        """Some line of a desk, not always one that it lets by."""
        word, other = chance.choice("mnxy"), chance.choice("mnxy")
        term = chance.choice(["x", "y y", "x (y x)", "[x] x y", DOUBLED, "([x] y (x v) (x w)) ([u] ([z] z z) v)",
                              "([x] y x x) (([w] w) (([v] v) z))", "m n", "[z] ([x] y) z"])
        kind, many = chance.choice(list(KINDS)), chance.choice([0, 1, 1, 2, 3, 7])
        return chance.choice([
            "undo", "undo", "undo", f"let {word} {term}", f"drop {word}", f"make {word} {kind} {term}",
            f"make {word} sharer {term}", f"go {word} {many}", f"go {word} 1", f"end {word}", f"back {word} {many}",
            f"twin {word} {other}", f"race {term}", f"show {word}"])

    def test_two_desks_by_turns(self):
        one, other = self.new(f"make m sharer {DOUBLED}"), self.new(f"make m needer {DOUBLED}", "let x z")
        self.told(one, ("go m 1", "1"))
        self.told(other, ("end m", "[a] a"))
        self.told(one, ("let x y", "1"), ("turns m", "1"))
        self.told(other, ("show x", "z"), ("undo", "end"), ("turns m", "0"))
        self.told(one, ("show x", "y"), ("undo", "let"), ("undo", "go"), ("undo", "make"))
        self.refused(NoBack, one.tell, "undo")
        self.told(other, ("undo", "let"), ("undo", "make"))


class TestRefusals(DeskCase):
    def full(self):
        return self.new("let m x", "let n y z", "let x y", f"make m sharer {DOUBLED}", "make n placer x", "go m 1",
                        "make x needer x", "make y placer y", "end y")

    def test_no_lines(self):
        for made in (Desk(), self.full()):
            state = self.state(made)
            for line in NO_LINES:
                error = self.refused(NoLine, made.tell, line)
                self.assertEqual(vars(error), {}, line)
            self.assertEqual(self.state(made), state)

    def test_of_anything(self):
        made = self.full()
        state = self.state(made)
        for thing in samples.NO_TEXTS + samples.NO_WHOLE_NUMBERS + [["undo"], ("show", "x"), b"undo"]:
            if not isinstance(thing, str):
                self.refused(NoLine, made.tell, thing)
        self.assertEqual(self.state(made), state)
        self.told(made, ("undo", "end"))

    def test_numbers_from_0_to_2000(self):
        made = self.new("make m placer x")
        for number in ["0", "1", "9", "10", "1999", "2000"]:
            self.told(made, (f"go m {number}", "0"))
            self.assertEqual(self.answer(made, f"back m {number}"), "ok" if number == "0" else (NoBack, {}))

    def test_names(self):
        made = self.new("let x y", "make m placer z")
        for line, word in [("show q", "q"), ("drop q", "q"), ("show m", "m"), ("drop m", "m"), ("go q 1", "q"),
                           ("go x 1", "x"), ("end x", "x"), ("worth x", "x"), ("turns x", "x"), ("back x 0", "x"),
                           ("twin x m", "x"), ("twin q r", "q"), ("twin q m", "q"), ("read x", "x"), ("net x", "x"),
                           ("net abcdefgh", "abcdefgh")]:
            self.assertEqual(vars(self.refused(NoName, made.tell, line)), {"word": word}, line)
        self.told(made, ("twin m x", "ok"), ("show x", "y"))

    def test_texts(self):
        made = self.full()
        state = self.state(made)
        for text, at in [("(y)", 1), ("x (y)", 4), ("abcdefghi", 8), ("([x] x)", 7), (" x", 0), (" ", 0), ("x ", 2),
                         ("  ", 0), ("x  y", 2), ("x y ", 4), ("X", 0), ("[x]", 3), ("[x] ", 4), ("x)", 1), ("1", 0),
                         ("é", 0), ("x\n", 1), ("[x]  x", 4)]:
            for ahead in ["let x ", "make m placer ", "make q sharer ", "shape ", "race "]:
                error = self.refused(NoText, made.tell, ahead + text)
                self.assertEqual(vars(error), {"at": at}, ahead + text)
        self.assertEqual(self.state(made), state)

    def test_blanks(self):
        made = Desk()
        # An empty word is a sign of a TERM, and no word else.
        self.assertEqual(self.refused(NoText, made.tell, "let x  y").at, 0)
        self.assertEqual(self.refused(NoText, made.tell, "let x y ").at, 2)
        self.assertEqual(self.refused(NoText, made.tell, "let x  ").at, 0)
        self.assertEqual(self.refused(NoText, made.tell, "race  ").at, 0)
        self.assertEqual(self.refused(NoText, made.tell, "shape   ").at, 0)
        self.assertEqual(self.refused(NoText, made.tell, "make m placer  x").at, 0)
        for line in ["let  x y", " let x y", "let x ", "race ", "make  m placer x", "make m  placer x", "undo ",
                     " undo"]:
            self.refused(NoLine, made.tell, line)

    def test_which_is_first(self):
        made = self.new("let x y", "make m placer x")
        for line, kind in [
                # A line that is none ahead of all.
                ("go q 2001", NoLine), ("back q x", NoLine), ("twin q N", NoLine), ("make M placer (", NoLine),
                ("make m place (", NoLine), ("let X (", NoLine), ("net q q", NoLine),
                # Then what is not kept.
                ("net q", NoName), ("worth q", NoName), ("back q 5", NoName), ("read q", NoName), ("twin q q", NoName),
                # Then texts; then what the points tell.
                ("let q (", NoText), ("make q placer (", NoText), ("race (", NoText), ("worth m", NotDone),
                ("back m 5", NoBack), ("net m", NoNet), ("read m", NotDone)]:
            self.refused(kind, made.tell, line)
        self.told(made, ("undo", "make"), ("undo", "let"))

    def test_behind_every_refusal_all_is_as_ahead(self):
        made = self.full()
        state = self.state(made)
        for line in NO_LINES + ["show q", "let x (", "make m sharer x)", "end q", "worth m", "back m 2", "read n",
                                "net n", "twin q m", "drop y", "race (", "shape X"]:
            self.assertIsInstance(self.answer(made, line), tuple, line)
            self.assertEqual(self.answer(made, line), self.answer(made, line))
        self.assertEqual(self.state(made), state)
        self.told(made, ("undo", "end"), ("undo", "make"), ("undo", "make"), ("undo", "go"))


class TestBounds(DeskCase):
    def test_long_lines(self):
        made = self.new("let b x")
        long = "let longword " + " ".join(["b"] * 280)
        self.assertLessEqual(len(long), 600)
        self.assertEqual(made.tell(long), "559")
        self.assertEqual(made.tell("show longword"), " ".join(["x"] * 280))

    def test_terms_that_grow(self):
        made = self.new("let x y")
        for number in range(2, 17):
            self.assertEqual(made.tell("let x x x"), str(2 ** number - 1))
        self.told(made, ("undo", "let"), ("let q [z] x", str(2 ** 15)), ("shape x", "none"))

    def test_many_lines(self):
        made = self.new("let two [f] [x] f (f x)", "make m sharer two two two z y")
        wanted = str(normal(read_term("([f] [x] f (f x)) ([f] [x] f (f x)) ([f] [x] f (f x)) z y"))[0])
        turns = 0
        for _ in range(150):
            turns, ahead = int(made.tell("go m 1")), turns
            self.assertIn(turns - ahead, (0, 1))
        self.told(made, ("end m", wanted))
        for _ in range(151):
            made.tell("undo")
        self.told(made, ("turns m", "0"), ("end m", wanted))


if __name__ == "__main__":
    unittest.main()
