"""Points 2, 22 and 23: asitruns.keeper.keeper."""

import unittest

from asitruns.errors import GuestError, NoPaper
from asitruns.host.deal import deal
from asitruns.keeper.keeper import Keeper
from asitruns.middle.blocks import block_at
from asitruns.middle.lead import lead
from asitruns.middle.shorten import shorten
from helper import Same, altered, changed, keeping_all, rows_of, state_of

# Forty cells: rows that count up to a jump at 20, another block up to a halt at 30.
AHEAD = ("put 1 0 5", "add 2 1 1", "get 3 0 4", "tell 2 0 0") * 5
STATE = state_of(*AHEAD, "jump 0 0 40", *("sub 1 1 2",) * 9, "halt 0 0 0")


def made(place, many, hands=4, state=STATE):
    """Made block, paper and host block of so many rows at the place."""
    rows = block_at(state, place, many)
    block, paper = shorten(place, rows)
    return (block, paper, deal(block, hands))


class Keeping(Same):

    def keeper(self, *asks):
        """A keeper to which blocks of these places and counts of rows were offered."""
        keeper = Keeper()
        for place, many in asks:
            self.assertIsNone(keeper.offer(STATE, *made(place, many)))
        return keeper

    def all_of(self, keeper):
        """All that is told of a keeper."""
        places = range(-1, 50)
        return (keeper.kept(), keeper.watched(), [keeper.host_at(place) for place in places],
                [keeper.rows_at(place) for place in places], [keeper.bound(place) for place in places])

    def refuses(self, state, block, paper, host):
        """The offer is refused, by a keeper with blocks and by one without, and nothing changes."""
        for keeper in (Keeper(), self.keeper((0, 5), (3, 4), (22, 2))):
            keeper.bind(0, 22)
            keeper.bind(3, 3)
            before = self.all_of(keeper)
            with self.assertRaises(NoPaper):
                keeper.offer(state, block, paper, host)
            self.assertEqual(self.all_of(keeper), before)


class Offers(Keeping):
    """Point 22."""

    def test_an_empty_keeper(self):
        keeper = Keeper()
        self.same(keeper.kept(), [])
        self.same(keeper.watched(), ())
        self.assertIsNone(keeper.host_at(0))
        self.assertIsNone(keeper.rows_at(0))
        self.same(keeper.bound(0), [])
        self.same(keeper.throw(0), 0)
        self.same(keeper.shut(0), 0)
        self.assertIs(keeper.bind(0, 0), False)

    def test_an_offer_taken(self):
        keeper = Keeper()
        block, paper, host = made(3, 5)
        self.assertIsNone(keeper.offer(STATE, block, paper, host))
        self.same(keeper.kept(), [3])
        self.same(keeper.rows_at(3), STATE[5][3:8])
        self.same(keeper.host_at(3), host)
        self.same(keeper.watched(), (0,))
        self.assertIsNone(keeper.host_at(4))
        self.assertIsNone(keeper.rows_at(4))

    def test_plain_blocks_are_taken_too(self):
        for many in (1, 2, 21):
            rows = block_at(STATE, 0, many)
            block = lead(0, rows)
            keeper = Keeper()
            keeper.offer(STATE, block, keeping_all(block), deal(block, 3))
            self.assertEqual(keeper.rows_at(0), rows)

    def test_the_states_own_place_does_not_matter(self):
        keeper = Keeper()
        keeper.offer(altered(STATE, place=30, saved=(4, (True, True, True))), *made(3, 5))
        self.same(keeper.kept(), [3])

    def test_one_row_and_sixty(self):
        state = state_of(*["tell 1 0 0"] * 64)
        for place in (0, 1, 4):
            for many in (1, 2, 59, 60):
                keeper = Keeper()
                keeper.offer(state, *made(place, many, state=state))
                self.assertEqual(len(keeper.rows_at(place)), many)

    def test_more_than_sixty_rows(self):
        state = state_of(*["tell 1 0 0"] * 64)
        rows = (state[5][0],) * 61
        block, paper = shorten(0, rows)
        self.refuses(state, block, paper, deal(block, 4))

    def test_a_place_whose_rows_are_others(self):
        rows = block_at(STATE, 0, 4)
        for place in (1, 2, 3, 5, 30, 39, 40, 65535):
            block, paper = shorten(place, rows)
            self.refuses(STATE, block, paper, deal(block, 4))
        # Four rows further the same rows stand.
        block, paper = shorten(4, rows)
        Keeper().offer(STATE, block, paper, deal(block, 4))

    def test_rows_that_are_others(self):
        rows = block_at(STATE, 0, 4)
        for other in (rows[:2] + rows[3:], rows_of("put 1 0 6") + rows[1:], rows[:3] + (rows[3] + 1,), rows[::-1]):
            block, paper = shorten(0, other)
            self.refuses(STATE, block, paper, deal(block, 4))
        # Fewer of them are a block with that bound.
        block, paper = shorten(0, rows[:3])
        Keeper().offer(STATE, block, paper, deal(block, 4))

    def test_rows_behind_one_that_ends_a_block(self):
        rows = STATE[5][18:23]
        block, paper = shorten(18, rows)
        self.refuses(STATE, block, paper, deal(block, 4))

    def test_a_page_that_may_not_be_run(self):
        for right in (0, 1, 2, 3):
            state = altered(STATE, rights=(7, right, 7, 7))
            self.refuses(state, *made(6, 3))
            self.refuses(state, *made(8, 3))
            self.refuses(state, *made(15, 1))
            Keeper().offer(state, *made(6, 2))
            Keeper().offer(state, *made(16, 2))
        Keeper().offer(altered(STATE, rights=(4, 4, 4, 4)), *made(6, 3))

    def test_rows_beyond_the_last_cell(self):
        state = state_of(*["tell 1 0 0"] * 8)
        for place, many in ((7, 2), (8, 1), (0, 9), (65535, 1)):
            block, paper = shorten(place, (state[5][0],) * many)
            self.refuses(state, block, paper, deal(block, 4))
        Keeper().offer(state, *made(7, 1, state=state))

    def test_no_cells(self):
        block, paper, host = made(0, 2)
        self.refuses(state_of(), block, paper, host)

    def test_another_place_or_other_rows_in_the_made_block(self):
        block, paper, host = made(0, 4)
        self.refuses(STATE, changed(block, (0,), 4), paper, host)
        self.refuses(STATE, changed(block, (1,), block[1][:-1]), paper, host)
        self.refuses(STATE, changed(block, (1,), block[1] + STATE[5][4:5]), paper, host)
        self.refuses(STATE, changed(block, (1, 0), rows_of("put 1 0 6")[0]), paper, host)

    def test_a_made_block_that_does_something_else(self):
        block, paper, host = made(0, 4)
        other = changed(block, (4, 2, 7), 6)
        self.refuses(STATE, other, paper, deal(other, 4))

    def test_another_paper(self):
        block, paper, host = made(0, 4)
        self.refuses(STATE, block, made(0, 5)[1], host)
        self.refuses(STATE, block, (paper[0], paper[1][:-1]), host)
        self.refuses(STATE, block, (paper[0][:-1], paper[1]), host)
        self.refuses(STATE, block, ((), ()), host)
        self.refuses(STATE, block, (), host)

    def test_another_host_block(self):
        block, paper, host = made(0, 4)
        self.refuses(STATE, block, paper, made(4, 4)[2])
        self.refuses(STATE, block, paper, made(0, 3)[2])
        self.refuses(STATE, block, paper, changed(host, (1,), 17))
        self.refuses(STATE, block, paper, changed(host, (2,), host[2][1:]))
        self.refuses(STATE, block, paper, changed(host, (3, 0, 1), 9))
        self.refuses(STATE, block, paper, ())

    def test_tuples_of_other_forms(self):
        block, paper, host = made(0, 4)
        for other in ((), block[:-1], block + (0,), (0,) * 5, ("",) * 5, ((),) * 5):
            self.refuses(STATE, other, paper, host)

    def test_the_refusal(self):
        self.assertTrue(issubclass(NoPaper, GuestError))
        self.assertEqual(NoPaper.__bases__, (GuestError,))

    def test_one_in_the_place_of_another(self):
        keeper = self.keeper((3, 15), (4, 4), (22, 2))
        for place, other in ((3, 4), (4, 3), (3, 3), (22, 3), (3, 22), (4, 4), (4, 22)):
            self.assertIs(keeper.bind(place, other), True)
        block, paper, host = made(3, 2, hands=9)
        keeper.offer(STATE, block, paper, host)
        self.same(keeper.kept(), [3, 4, 22])
        self.same(keeper.rows_at(3), STATE[5][3:5])
        self.same(keeper.host_at(3), host)
        self.same(keeper.watched(), (0, 2))
        self.same([keeper.bound(place) for place in (3, 4, 22)], [[], [4, 22], []])

    def test_the_same_once_more(self):
        keeper = self.keeper((3, 4), (4, 4))
        keeper.bind(3, 4)
        keeper.bind(4, 3)
        keeper.offer(STATE, *made(3, 4))
        self.same(keeper.kept(), [3, 4])
        self.same([keeper.bound(3), keeper.bound(4)], [[], []])

    def test_places_rising(self):
        keeper = self.keeper((22, 2), (3, 4), (0, 1), (10, 5), (4, 4))
        self.same(keeper.kept(), [0, 3, 4, 10, 22])


class Pages(Keeping):
    """Point 22: the pages of blocks, shut and thrown out."""

    def test_pages_that_a_block_lies_in(self):
        for place, many, pages in ((0, 1, (0,)), (0, 8, (0,)), (0, 9, (0, 1)), (7, 1, (0,)), (7, 2, (0, 1)),
                                   (8, 1, (1,)), (8, 8, (1,)), (1, 16, (0, 1, 2)), (0, 16, (0, 1)), (0, 17, (0, 1, 2)),
                                   (15, 2, (1, 2))):
            with self.subTest(place=place, many=many):
                keeper = self.keeper((place, many))
                self.same(keeper.watched(), pages)
                for page in range(-1, 6):
                    keeper = self.keeper((place, many))
                    self.same(keeper.shut(page), 1 if page in pages else 0)
                    self.same(keeper.kept(), [] if page in pages else [place])
                    self.same(keeper.watched(), () if page in pages else pages)

    def test_a_row_that_ends_the_block_lies_in_it_too(self):
        # The jump is cell 20, the halt cell 30.
        self.same(self.keeper((14, 60)).watched(), (1, 2))
        self.same(self.keeper((21, 60)).watched(), (2, 3))

    def test_sixty_rows(self):
        state = state_of(*["tell 1 0 0"] * 128)
        keeper = Keeper()
        keeper.offer(state, *made(60, 60, state=state))
        self.same(keeper.watched(), (7, 8, 9, 10, 11, 12, 13, 14))
        keeper.offer(state, *made(68, 60, state=state))
        self.same(keeper.watched(), (7, 8, 9, 10, 11, 12, 13, 14, 15))
        self.same(keeper.shut(15), 1)
        self.same(keeper.kept(), [60])

    def test_a_page_shut(self):
        keeper = self.keeper((0, 4), (6, 4), (8, 4), (22, 2), (3, 14))
        self.same(keeper.watched(), (0, 1, 2))
        self.same(keeper.shut(1), 3)
        self.same(keeper.kept(), [0, 22])
        self.same(keeper.watched(), (0, 2))
        self.same(keeper.shut(1), 0)
        self.same(keeper.shut(9), 0)
        self.same(keeper.shut(-1), 0)
        self.same(keeper.shut(2), 1)
        self.same(keeper.kept(), [0])

    def test_thrown_out(self):
        keeper = self.keeper((0, 4), (6, 4), (8, 4))
        for place in (1, 7, 9, 100, -1):
            self.same(keeper.throw(place), 0)
        self.same(keeper.kept(), [0, 6, 8])
        self.same(keeper.throw(6), 1)
        self.same(keeper.kept(), [0, 8])
        self.assertIsNone(keeper.host_at(6))
        self.assertIsNone(keeper.rows_at(6))
        self.same(keeper.throw(6), 0)
        self.same(keeper.watched(), (0, 1))
        self.same(keeper.throw(0), 1)
        self.same(keeper.watched(), (1,))

    def test_offered_again(self):
        keeper = self.keeper((0, 4), (6, 4))
        keeper.throw(6)
        keeper.offer(STATE, *made(6, 2))
        self.same(keeper.rows_at(6), STATE[5][6:8])


class Bindings(Keeping):
    """Point 23."""

    def test_bound(self):
        keeper = self.keeper((0, 4), (4, 4), (8, 4))
        self.assertIs(keeper.bind(0, 8), True)
        self.assertIs(keeper.bind(0, 4), True)
        self.assertIs(keeper.bind(4, 4), True)
        self.assertIs(keeper.bind(0, 4), True)
        self.same([keeper.bound(place) for place in (0, 4, 8)], [[4, 8], [4], []])

    def test_where_one_of_the_two_is_not_kept(self):
        keeper = self.keeper((0, 4), (4, 4))
        for place, other in ((0, 8), (8, 0), (8, 8), (8, 9), (0, 1), (1, 0), (-1, 0)):
            self.assertIs(keeper.bind(place, other), False)
        self.same([keeper.bound(place) for place in (0, 4, 8, 9, 1)], [[], [], [], [], []])
        # Nor are they bound when it is kept later on.
        keeper.offer(STATE, *made(8, 4))
        self.same([keeper.bound(place) for place in (0, 8)], [[], []])

    def test_who_goes_takes_bindings_from_and_to_it_along(self):
        for goes in ("throw", "shut", "offer"):
            keeper = self.keeper((0, 4), (4, 4), (8, 4), (22, 2))
            for place in (0, 4, 8, 22):
                for other in (0, 4, 8, 22):
                    keeper.bind(place, other)
            if goes == "throw":
                keeper.throw(8)
            elif goes == "shut":
                keeper.shut(1)
            else:
                keeper.offer(STATE, *made(8, 1))
            self.same([keeper.bound(place) for place in (0, 4, 8, 22)], [[0, 4, 22], [0, 4, 22], [], [0, 4, 22]])
            # It comes back with none.
            keeper.offer(STATE, *made(8, 4))
            self.same(keeper.bound(8), [])
            self.same(keeper.bound(0), [0, 4, 22])

    def test_several_that_go_at_once(self):
        keeper = self.keeper((0, 4), (4, 4), (8, 4), (22, 2))
        for place in (0, 4, 8, 22):
            for other in (0, 4, 8, 22):
                keeper.bind(place, other)
        self.same(keeper.shut(0), 2)
        self.same([keeper.bound(place) for place in (0, 4, 8, 22)], [[], [], [8, 22], [8, 22]])


class OwnAffairs(Keeping):
    """Point 2."""

    def test_what_is_told_is_the_askers_own(self):
        keeper = self.keeper((0, 4), (4, 4))
        keeper.bind(0, 4)
        places = keeper.kept()
        bound = keeper.bound(0)
        watched = keeper.watched()
        keeper.kept().append(5)
        keeper.bound(0).clear()
        keeper.bound(4).append(9)
        before = self.all_of(keeper)
        self.assertEqual((places, bound, watched), (before[0], [4], before[1]))
        keeper.throw(4)
        self.assertEqual((places, bound, watched), ([0, 4], [4], (0,)))
        self.assertEqual(self.all_of(keeper), self.all_of(self.keeper((0, 4))))

    def test_two_keepers(self):
        first = self.keeper((0, 4), (4, 4))
        second = self.keeper((0, 3))
        first.bind(0, 4)
        second.bind(0, 0)
        self.assertEqual((first.bound(0), second.bound(0)), ([4], [0]))
        second.throw(0)
        self.assertEqual((first.kept(), second.kept()), ([0, 4], []))


if __name__ == "__main__":
    unittest.main()
