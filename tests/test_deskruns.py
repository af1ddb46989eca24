"""Point [60]: commands of a desk."""

from ladderreach.desks import Desk
from ladderreach.errors import BadLine, NothingToRedo, NothingToUndo, ScriptError
from ladderreach.games import Game
from ladderreach.ladders import Ladder
from ladderreach.laddertext import format_ladder
from tests.deskmodel import Model, draw_deed, draw_levels
from tests.helpers import Case, draw_game, drawn, full_game, long_levels


def new_desk():
    """A desk with one deed that can be taken back and one that can be done once more."""
    desk = Desk(Game(1, "AB", [(0, 0, 0), (0, 1, 1), (1, 0, 1)]), Ladder(1, [1]))
    desk.use(Ladder(1, [1, 1]))
    desk.cut((0, 0, 0))
    desk.undo()
    return desk


def all_of(desk):
    return (desk.game, desk.ladder, desk.placement, desk.log, desk.changes, desk.depth)


def history(desk):
    """All that undo and redo lead to; the desk is not what it was after this."""
    seen = []
    for call in (desk.redo, desk.undo):
        while True:
            try:
                call()
            except (NothingToRedo, NothingToUndo):
                break
            seen.append(all_of(desk))
    return seen


def written(word, value):
    """The line for a deed of the model."""
    if value is None:
        return word
    numbers = [value] if word == "give" else value
    return " ".join([word, *[str(number) for number in numbers]])


class CommandTest(Case):
    def test_put(self):
        desk = new_desk()
        self.assertEqual(desk.run(["put 1 2 0"]), [])
        self.assertEqual(desk.game.edges, ((0, 0, 0), (0, 1, 1), (1, 0, 1), (1, 2, 0)))
        self.assertEqual((desk.depth, desk.log), (2, []))

    def test_cut(self):
        desk = new_desk()
        self.assertEqual(desk.run(["cut 0 0 0"]), [])
        self.assertEqual((desk.game.edges, desk.placement), (((0, 1, 1), (1, 0, 1)), [1, 0]))
        self.assertEqual((desk.depth, desk.log, desk.changes), (2, [(0, 1)], [(0, 0, 1)]))

    def test_give(self):
        desk = new_desk()
        self.assertEqual(desk.run(["give 0"]), [])
        self.assertEqual((desk.game.owners, desk.placement, desk.log), ("BB", [1, 0], [(0, 1)]))

    def test_use(self):
        desk = new_desk()
        self.assertEqual(desk.run(["use 1 1 1"]), [])
        self.assertEqual(desk.ladder, Ladder(1, [1, 1, 1]))
        self.assertEqual(desk.run(["use"]), [])
        self.assertEqual((desk.ladder, desk.depth), (Ladder(1, []), 3))
        desk = Desk(Game(3, "A", [(0, 0, 0)]), Ladder(3, []))
        self.assertEqual(desk.run(["use 3 1 2"]), [])
        self.assertEqual(desk.ladder, Ladder(3, [3, 1, 2]))
        self.assertEqual(desk.run(["use" + " 2" * 24]), [])
        self.assertEqual(desk.ladder, Ladder(3, [2] * 24))

    def test_undo_and_redo(self):
        desk = new_desk()
        self.assertEqual(desk.run(["undo"]), [])
        self.assertEqual((desk.ladder, desk.depth, desk.log), (Ladder(1, [1]), 0, []))
        self.assertEqual(desk.run(["redo", "redo"]), [])
        self.assertEqual((desk.ladder, desk.depth), (Ladder(1, [1, 1]), 2))
        self.assertEqual(desk.game.edges, ((0, 1, 1), (1, 0, 1)))
        self.assertEqual((desk.log, desk.changes), ([], [(0, 0, 1)]))

    def test_each_deed_by_itself(self):
        desk = new_desk()
        self.assertEqual(desk.run(["give 0", "give 1", "use", "undo", "levels"]), ["ladder 1: 1 1"])
        self.assertEqual(desk.depth, 3)
        desk.undo()
        desk.undo()
        self.assertEqual(desk.game.owners, "AB")
        self.assertEqual(desk.depth, 1)

    def test_show(self):
        desk = Desk(Game(1, "ABB", [(0, 1, 1), (1, 0, 1), (2, 1, 2)]), Ladder(1, [1]))
        self.assertEqual(desk.run(["show 0", "show 1", "show 2"]), ["0 A 1", "1 B 0", "2 B off"])
        desk = Desk(full_game(1), Ladder(1, []))
        self.assertEqual(desk.run(["show 8"]), ["8 B off"])
        game = Game(1, "A" * 9, [(k, 1, k + 1) for k in range(8)] + [(8, 0, 8)])
        desk = Desk(game, Ladder(1, [1] * 24))
        self.assertEqual(desk.run(["show 0", "show 8"]), ["0 A 8", "8 A 0"])
        desk = Desk(Game(1, "B", [(0, 0, 0)]), Ladder(1, [1] * 24))
        self.assertEqual(desk.run(["show 0"]), ["0 B 0"])

    def test_steps_of_two_digits(self):
        edges = [(k, 1, k + 1) for k in range(5)] + [(k, 3, k + 1) for k in range(5, 8)] + [(8, 0, 8)]
        desk = Desk(Game(2, "A" * 9, edges), Ladder(2, [1, 1, 1, 1, 2] * 4))
        self.assertGreater(desk.placement[0], 9)
        self.assertEqual(desk.run(["show 0"]), [f"0 A {desk.placement[0]}"])

    def test_told(self):
        desk = Desk(Game(1, "ABB", [(0, 1, 1), (1, 0, 1), (2, 1, 2)]), Ladder(1, [1]))
        self.assertEqual(desk.run(["told"]), ["told 0 1"])
        desk.use(Ladder(1, []))
        self.assertEqual(desk.run(["told"]), ["told 1"])
        desk.put((1, 1, 1))
        self.assertEqual(desk.run(["told"]), ["told"])

    def test_levels(self):
        for height in (1, 2, 3):
            for levels in ((), (height,), long_levels(height)):
                desk = Desk(Game(height, "A", [(0, 0, 0)]), Ladder(height, levels))
                self.assertEqual(desk.run(["levels"]), [format_ladder(Ladder(height, levels))])
        self.assertEqual(Desk(Game(2, "A", [(0, 0, 0)]), Ladder(2, [])).run(["levels"]), ["ladder 2:"])

    def test_several_lines(self):
        lines = ["told", "give 0", "show 0", "use 1", "levels", "undo", "levels", "redo", "show 1", "told"]
        expected = ["told 0 1", "0 B 1", "ladder 1: 1", "ladder 1: 1 1", "1 B 0", "told 0 1"]
        self.assertEqual(new_desk().run(lines), expected)
        self.assertEqual(new_desk().run(tuple(lines)), expected)
        self.assertEqual(lines[0], "told")
        self.assertIs(type(new_desk().run(tuple(lines))), list)

    def test_no_lines(self):
        for lines in ([], ()):
            desk = new_desk()
            before = all_of(desk)
            self.assertEqual(desk.run(lines), [])
            self.assertEqual(all_of(desk), before)
            desk.redo()

    def test_lines_that_only_show_change_nothing(self):
        desk = new_desk()
        before = all_of(desk)
        self.assertEqual(len(desk.run(["show 0", "told", "levels"])), 3)
        self.assertEqual(all_of(desk), before)
        desk.redo()

    def test_the_output_is_new(self):
        desk = new_desk()
        desk.run(["told", "levels"]).clear()
        self.assertEqual(desk.run(["told"]), ["told 0 1"])


class BadLineTest(Case):
    FORMS = ("put 1 2 0", "cut 0 0 0", "give 0", "use 1 1", "undo", "redo", "show 0", "told", "levels", "use")

    def assert_bad(self, line):
        desk, other = new_desk(), new_desk()
        before = all_of(desk)
        self.assert_raises(BadLine, desk.run, [line], has={"number": 1})
        self.assert_raises(BadLine, desk.run, ["undo", "told", "use", line, "more"], has={"number": 4})
        self.assertEqual(all_of(desk), before)
        self.assertEqual(history(desk), history(other))

    def test_good_lines(self):
        for line in self.FORMS:
            new_desk().run([line])

    def test_further_spaces(self):
        for line in self.FORMS:
            self.assert_bad(" " + line)
            self.assert_bad(line + " ")
            self.assert_bad(line + "  ")
            for at, sign in enumerate(line):
                if sign == " ":
                    self.assert_bad(line[:at] + " " + line[at:])

    def test_empty_lines(self):
        for line in ("", " ", "  "):
            self.assert_bad(line)

    def test_other_words(self):
        for line in ("Put 1 2 0", "PUT 1 2 0", "place 1 2 0", "give0", "undos", "un do", "redo!", "tell", "level",
                     "shows 0", "0 show", "0", "x", "ladder 1: 1", "putt 1 2 0", "run", "use: 1", "use1"):
            self.assert_bad(line)

    def test_numbers(self):
        for number in ("-1", "+1", "00", "01", "1.", "a", "1a", "a1", "0x1", "1_0", "-0", "1,", ":", "off", "None"):
            for line in (f"put {number} 0 0", f"put 0 {number} 0", f"put 0 0 {number}", f"cut {number} 0 0",
                         f"cut 0 {number} 0", f"cut 0 0 {number}", f"give {number}", f"use {number}",
                         f"use 1 {number}", f"use {number} 1", f"show {number}"):
                self.assert_bad(line)

    def test_counts_of_numbers(self):
        for line in ("put", "put 0", "put 0 0", "put 0 0 0 0", "cut", "cut 0", "cut 0 0", "cut 0 0 0 0", "give",
                     "give 0 0", "undo 0", "undo 1 1", "redo 0", "show", "show 0 0", "told 0", "levels 0", "levels 1"):
            self.assert_bad(line)

    def test_other_signs_between(self):
        for line in ("give\t0", "give 0\n", "\ngive 0", "put 0,0,0", "undo\n", "told\n", "use 1\n", "use\n1", "show 0\r"):
            self.assert_bad(line)

    def test_the_form_of_a_number_with_many_digits(self):
        self.assert_bad("give 0" + "1" * 59)
        self.assert_bad("use 1 " + "0" * 60)


class ScriptErrorTest(Case):
    def assert_fails(self, line, name, desk_of=new_desk):
        for lines, number in (([line], 1), (["told", "levels", line, ""], 3)):
            desk, other = desk_of(), desk_of()
            before = all_of(desk)
            self.assert_raises(ScriptError, desk.run, lines, has={"number": number, "name": name})
            self.assertEqual(all_of(desk), before)
            self.assertEqual(history(desk), history(other))

    def test_each_error(self):
        for line, name in (
            ("put 2 0 0", "BadEdge"), ("put 0 3 0", "BadEdge"), ("put 0 0 2", "BadEdge"), ("put 0 0 0", "DuplicateEdge"),
            ("cut 0 2 0", "NoSuchEdge"), ("cut 9 9 9", "NoSuchEdge"), ("cut 1 0 1", "DeadEnd"), ("give 2", "NoSuchNode"),
            ("use 2", "BadLevel"), ("use 1 0 1", "BadLevel"), ("use" + " 1" * 25, "TooLarge"),
            ("use" + " 9" * 25, "TooLarge"), ("show 2", "NoSuchNode"),
        ):
            self.assert_fails(line, name)

    def test_undo_and_redo(self):
        def fresh():
            return Desk(Game(1, "A", [(0, 0, 0)]), Ladder(1, []))
        self.assert_fails("undo", "NothingToUndo", fresh)
        self.assert_fails("redo", "NothingToRedo", fresh)
        desk = new_desk()
        self.assert_raises(ScriptError, desk.run, ["undo", "undo"], has={"number": 2, "name": "NothingToUndo"})
        self.assert_raises(ScriptError, desk.run, ["redo", "redo"], has={"number": 2, "name": "NothingToRedo"})
        self.assert_raises(ScriptError, desk.run, ["give 0", "redo"], has={"number": 2, "name": "NothingToRedo"})
        self.assertEqual(desk.run(["redo", "undo", "undo"]), [])

    def test_too_many_edges(self):
        def full():
            return Desk(full_game(3), Ladder(3, [1]))
        self.assert_fails("put 0 0 0", "TooLarge", full)
        self.assert_fails("put 99 99 99", "TooLarge", full)

    def test_numbers_of_many_digits(self):
        for digits in (2, 19, 20, 40, 60):
            number = "9" * digits
            for line, name in (
                (f"put {number} 0 0", "BadEdge"), (f"put 0 {number} 0", "BadEdge"), (f"put 0 0 {number}", "BadEdge"),
                (f"cut {number} {number} {number}", "NoSuchEdge"), (f"give {number}", "NoSuchNode"),
                (f"use {number}", "BadLevel"), (f"use 1 {number}", "BadLevel"), (f"show {number}", "NoSuchNode"),
            ):
                self.assert_fails(line, name)

    def test_the_first_faulty_line_decides(self):
        desk = new_desk()
        self.assert_raises(BadLine, desk.run, ["told", "tell", "show 9"], has={"number": 2})
        self.assert_raises(ScriptError, desk.run, ["told", "show 9", "tell"], has={"number": 2, "name": "NoSuchNode"})
        self.assert_raises(ScriptError, desk.run, ["use 7", "give 9"], has={"number": 1, "name": "BadLevel"})
        # Line 3 only fails because of what the lines before it have done.
        self.assert_raises(
            ScriptError, desk.run, ["use", "cut 0 0 0", "cut 0 1 1", ""], has={"number": 3, "name": "DeadEnd"})
        self.assert_raises(
            ScriptError, desk.run, ["put 1 1 1", "put 1 1 1"], has={"number": 2, "name": "DuplicateEdge"})

    def test_the_form_of_a_line_comes_before_its_errors(self):
        self.assert_raises(BadLine, new_desk().run, ["use 9 x"], has={"number": 1})
        self.assert_raises(BadLine, new_desk().run, ["show 9 9"], has={"number": 1})
        self.assert_raises(BadLine, new_desk().run, ["put 9 9 09"], has={"number": 1})


class DrawnRunTest(Case):
    def test_drawn_scripts(self):
        rng = drawn(60)
        seen = {"good": 0, "wrong": 0}
        for turn in range(40):
            height = turn % 3 + 1
            game, levels = draw_game(rng, most_size=5, most_out=3, height=height), draw_levels(rng, height)
            desk, model = Desk(game, Ladder(height, levels)), Model(height, game.owners, game.edges, levels)
            for _ in range(8):
                self.run_a_script(rng, desk, model, seen)
        self.assertGreater(min(seen.values()), 50)

    def run_a_script(self, rng, desk, model, seen):
        """The model only keeps what the whole script does if none of its deeds fails."""
        kept = (list(model.states), model.at, model.log, model.changes)
        lines, output, fault = [], [], None
        for _ in range(rng.randint(1, 6)):
            word, value = draw_deed(rng, model, wrong=0.05)
            if word in ("put", "cut") and min(value) < 0 or word == "give" and value < 0:
                continue
            lines.append(written(word, value))
            fault = model.do(word, value)
            if fault:
                break
            lines.append("told")
            told = [str(node) for node, entry in enumerate(model.placement()) if entry is not None]
            output.append(" ".join(["told", *told]))
        if fault:
            number = len(lines)
            lines.append(rng.choice(("told", "tell", "undo")))
            self.assert_raises(ScriptError, desk.run, lines, has={"number": number, "name": fault[0]})
            model.states, model.at, model.log, model.changes = kept
            seen["wrong"] += 1
        else:
            self.assertEqual(desk.run(lines), output)
            seen["good"] += 1
        self.assertEqual(all_of(desk), (
            model.game(), model.ladder(), model.placement(), model.log, model.changes, model.depth()))

    def test_a_long_script(self):
        desk = Desk(Game(1, "BB", [(0, 1, 1), (1, 2, 0)]), Ladder(1, [1]))
        lines = ["give 0", "use", "use 1", "undo"] * 100 + ["undo"] * 200 + ["levels"]
        self.assertEqual(desk.run(lines), ["ladder 1: 1"])
        self.assertEqual(desk.depth, 0)
        # The last deed of the first part can be done once more, too.
        self.assert_raises(ScriptError, desk.run, ["redo"] * 202, has={"number": 202, "name": "NothingToRedo"})
        self.assertEqual(desk.depth, 0)
        desk.run(["redo"] * 201)
        self.assertEqual(desk.depth, 201)
