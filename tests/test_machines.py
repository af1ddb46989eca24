"""Points [53] and [54]: controllers and worlds."""

from ladderreach.errors import BadMove, BadSize, NoSuchLetter
from ladderreach.machines import Controller, World
from tests.drawnmachines import draw_controller_moves, draw_world_moves
from tests.helpers import Case, drawn


class ControllerTest(Case):
    def test_attributes(self):
        for moves in ([[(0, 1), (2, 0)], [(1, 1), (0, 0)]], (((0, 1), (2, 0)), ((1, 1), (0, 0)))):
            controller = Controller(moves)
            self.assertEqual(controller.moves, (((0, 1), (2, 0)), ((1, 1), (0, 0))))
            self.assertEqual(controller.memory, 0)
            for name in ("moves", "memory"):
                self.assertIn(name, vars(controller))

    def test_moves_are_copied(self):
        moves = [[(0, 1)], [(1, 0)]]
        controller = Controller(moves)
        moves[0][0] = (2, 0)
        moves[1].append((0, 0))
        moves.append([(0, 0)])
        self.assertEqual(controller.moves, (((0, 1),), ((1, 0),)))
        self.assertEqual([controller(0), controller(0), controller(0)], [0, 1, 0])

    def test_all_sizes(self):
        for memories in (1, 2, 3, 4):
            for letters in (1, 2):
                moves = [[(2, memories - 1)] * letters for _ in range(memories)]
                self.assertEqual(Controller(moves).moves, tuple(tuple(row) for row in moves))

    def test_bad_size(self):
        for letters in (1, 2):
            self.assert_raises(BadSize, Controller, [])
            for memories in (5, 6, 9):
                self.assert_raises(BadSize, Controller, [[(0, 0)] * letters] * memories)
        for memories in (1, 2, 4):
            for letters in (0, 3, 4):
                self.assert_raises(BadSize, Controller, [[(0, 0)] * letters] * memories)
        self.assert_raises(BadSize, Controller, ())
        self.assert_raises(BadSize, Controller, ((),))

    def test_bad_move(self):
        for memories in (1, 2, 3, 4):
            for letters in (1, 2):
                for memory in range(memories):
                    for letter in range(letters):
                        for pair in ((-1, 0), (3, 0), (0, -1), (0, memories), (9, 9)):
                            moves = [[(0, 0)] * letters for _ in range(memories)]
                            moves[memory][letter] = pair
                            self.assert_raises(BadMove, Controller, moves, has={"state": memory})
                    for other in (0, 1, 2, 3):
                        if other != letters and memory > 0:
                            moves = [[(0, 0)] * letters for _ in range(memories)]
                            moves[memory] = [(0, 0)] * other
                            self.assert_raises(BadMove, Controller, moves, has={"state": memory})

    def test_the_least_wrong_memory(self):
        good, bad, long = [(0, 0)], [(3, 0)], [(0, 0), (0, 0)]
        self.assert_raises(BadMove, Controller, [good, long, bad], has={"state": 1})
        self.assert_raises(BadMove, Controller, [good, good, bad, long], has={"state": 2})
        self.assert_raises(BadMove, Controller, [bad, long], has={"state": 0})
        self.assert_raises(BadMove, Controller, [good, good, good, [(0, 4)]], has={"state": 3})

    def test_bad_size_ahead_of_bad_move(self):
        self.assert_raises(BadSize, Controller, [[(9, 9)]] * 5)
        self.assert_raises(BadSize, Controller, [[(9, 9)] * 3])

    def test_calls(self):
        rng = drawn(53)
        for _ in range(60):
            letters = rng.randint(1, 2)
            moves = draw_controller_moves(rng, letters, 3)
            controller = Controller(moves)
            memory = 0
            for _ in range(40):
                if rng.random() < 0.1:
                    self.assertIsNone(controller.reset())
                    memory = 0
                elif rng.random() < 0.1:
                    for letter in (-1, letters, 9):
                        self.assert_raises(NoSuchLetter, controller, letter, has={"letter": letter})
                else:
                    letter = rng.randrange(letters)
                    answer, memory = moves[memory][letter]
                    self.assertEqual(controller(letter), answer)
                self.assertEqual(controller.memory, memory)

    def test_no_such_letter(self):
        controller = Controller([[(0, 1)], [(1, 0)]])
        controller(0)
        for letter in (-1, 1, 2):
            self.assert_raises(NoSuchLetter, controller, letter, has={"letter": letter})
            self.assertEqual(controller.memory, 1)
        self.assertEqual(controller(0), 1)
        controller = Controller([[(0, 0), (1, 0)]])
        self.assertEqual(controller(1), 1)
        for letter in (-1, -2, 2):
            self.assert_raises(NoSuchLetter, controller, letter, has={"letter": letter})

    def test_controllers_are_apart(self):
        moves = [[(0, 1)], [(1, 0)]]
        one, other = Controller(moves), Controller(moves)
        one(0)
        self.assertEqual((one.memory, other.memory), (1, 0))


class WorldTest(Case):
    def test_attributes(self):
        for moves in ([(0, [1, 0]), (1, (0, 1))], ((0, (1, 0)), (1, (0, 1))), [(0, [1, 0]), (1, [0, 1])]):
            world = World(moves)
            self.assertEqual(world.moves, ((0, (1, 0)), (1, (0, 1))))
            self.assertIn("moves", vars(world))
            self.assertEqual([type(row) for row in world.moves], [tuple, tuple])
            self.assertEqual([type(ends) for _, ends in world.moves], [tuple, tuple])

    def test_moves_are_copied(self):
        moves = [(0, [1, 0]), (1, [0, 1])]
        world = World(moves)
        moves[0][1][0] = 0
        moves[1][1].append(1)
        moves.append((0, [0, 0]))
        self.assertEqual(world.moves, ((0, (1, 0)), (1, (0, 1))))

    def test_all_sizes(self):
        rng = drawn(54)
        for memories in (1, 2, 3, 4):
            for answers in (1, 2, 3):
                moves = draw_world_moves(rng, 2, answers, memories)
                self.assertEqual(World(moves).moves, tuple((letter, tuple(ends)) for letter, ends in moves))

    def test_bad_size(self):
        self.assert_raises(BadSize, World, [])
        self.assert_raises(BadSize, World, ())
        for answers in (1, 2, 3):
            for memories in (5, 6, 9):
                self.assert_raises(BadSize, World, [(0, [0] * answers)] * memories)
        for memories in (1, 2, 4):
            for answers in (0, 4, 5):
                self.assert_raises(BadSize, World, [(0, [0] * answers)] * memories)

    def test_bad_move(self):
        for memories in (1, 2, 3, 4):
            for answers in (1, 2, 3):
                for memory in range(memories):
                    has = {"state": memory}
                    for letter in (-1, 2, 5):
                        moves = [(0, [0] * answers) for _ in range(memories)]
                        moves[memory] = (letter, [0] * answers)
                        self.assert_raises(BadMove, World, moves, has=has)
                    for answer in range(answers):
                        for end in (-1, memories, 9):
                            moves = [(1, [0] * answers) for _ in range(memories)]
                            moves[memory][1][answer] = end
                            self.assert_raises(BadMove, World, moves, has=has)
                    for other in (0, 1, 2, 3, 4):
                        if other != answers and memory > 0:
                            moves = [(1, [0] * answers) for _ in range(memories)]
                            moves[memory] = (1, [0] * other)
                            self.assert_raises(BadMove, World, moves, has=has)

    def test_the_least_wrong_memory(self):
        good, letter, end, long = (0, [0]), (2, [0]), (0, [4]), (0, [0, 0])
        self.assert_raises(BadMove, World, [good, end, letter], has={"state": 1})
        self.assert_raises(BadMove, World, [good, good, letter, end], has={"state": 2})
        self.assert_raises(BadMove, World, [good, good, long, letter], has={"state": 2})
        self.assert_raises(BadMove, World, [end, letter], has={"state": 0})
        self.assert_raises(BadMove, World, [good, good, good, end], has={"state": 3})

    def test_bad_size_ahead_of_bad_move(self):
        self.assert_raises(BadSize, World, [(9, [9])] * 5)
        self.assert_raises(BadSize, World, [(9, [9] * 4)])
        self.assert_raises(BadSize, World, [(9, [])])
