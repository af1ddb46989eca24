"""Point [14]: stands."""

from ladderreach.cycles import odd_cycle
from ladderreach.games import Game
from ladderreach.stands import stand
from ladderreach.webs import Web
from tests.helpers import (
    Case, all_rows_up_to, allowed, draw_even_web, draw_standing_web, draw_web, drawn, full_edges, full_game,
    has_cycle,
)


class StandTest(Case):
    def assert_stands(self, web):
        found = stand(web)
        self.assertIs(type(found), tuple)
        row, steps = found
        self.assertIs(type(row), tuple)
        self.assertIs(type(steps), list)
        self.assertLess(len(row), web.size)
        self.assertEqual(len(steps), web.size)
        for level in row:
            self.assertIn(level, range(1, web.height + 1))
        for step in steps:
            self.assertIn(step, range(len(row) + 1))
        for source, rank, target in web.edges:
            self.assertTrue(allowed(row, steps[source], rank, steps[target]), (web.edges, found))

    def test_one_node(self):
        for height in (1, 2, 3):
            self.assertEqual(stand(Web(height, 1, [])), ((), [0]))
            for rank in range(2 * height + 1):
                for web in (Web(height, 1, [(0, rank, 0)]), Game(height, "A", [(0, rank, 0)])):
                    self.assertEqual(stand(web), ((), [0]) if rank % 2 == 0 else None)

    def test_no_edges(self):
        for height in (1, 2, 3):
            for size in (2, 5, 9):
                self.assert_stands(Web(height, size, []))

    def test_one_edge(self):
        self.assert_stands(Web(1, 2, [(0, 1, 1)]))
        self.assert_stands(Web(1, 2, [(1, 1, 0)]))
        self.assert_stands(Web(3, 2, [(0, 5, 1)]))
        self.assert_stands(Web(3, 9, [(0, 3, 8)]))

    def test_odd_webs(self):
        self.assertIsNone(stand(Web(1, 2, [(0, 1, 1), (1, 0, 0)])))
        self.assertIsNone(stand(Web(2, 9, [(8, 3, 7), (7, 2, 8), (0, 0, 0)])))
        for height in (1, 2, 3):
            self.assertIsNone(stand(Web(height, 9, full_edges(height))))
            self.assertIsNone(stand(full_game(height)))

    def test_row_webs_stand_on_their_own_row_alone(self):
        for height in (1, 2, 3):
            for row in all_rows_up_to(height, 4) + [tuple(k % height + 1 for k in range(8))]:
                edges = []
                for k, level in enumerate(row):
                    edges += [(k, 2 * level, k + 1), (k + 1, 2 * level - 1, k)]
                self.assertEqual(stand(Web(height, len(row) + 1, edges)), (row, list(range(len(row) + 1))))

    def test_drawn_webs(self):
        rng = drawn(14)
        even = 0
        for _ in range(300):
            web = draw_web(rng, most_edges=rng.choice((3, 6, 10, 63)))
            self.assertEqual(stand(web) is None, odd_cycle(web) is not None)
            self.assertEqual(stand(web) is None, has_cycle(web.size, web.edges, 1))
            if stand(web) is not None:
                even += 1
                self.assert_stands(web)
        self.assertGreater(even, 50)

    def test_drawn_even_webs(self):
        rng = drawn(15)
        for _ in range(80):
            self.assert_stands(draw_even_web(rng))
        for height in (1, 2, 3):
            for _ in range(40):
                self.assert_stands(draw_standing_web(rng, height, rng.randint(1, 9), 63))

    def test_nine_nodes_and_63_edges(self):
        rng = drawn(16)
        for height in (1, 2, 3):
            for _ in range(20):
                web = draw_standing_web(rng, height, 9, 63)
                self.assertEqual(len(web.edges), 63)
                self.assert_stands(web)

    def test_a_game(self):
        game = Game(2, "ABA", [(0, 3, 1), (1, 2, 2), (2, 4, 0), (1, 1, 2)])
        self.assert_stands(game)
        self.assertEqual(stand(game.with_owner(0, "B")), stand(game))

    def test_new_list_each_time(self):
        web = Web(1, 2, [(0, 1, 1)])
        right = stand(web)
        stand(web)[1].append(9)
        self.assertEqual(stand(web), right)
