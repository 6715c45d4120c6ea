"""What comes to be agreed of a head's row: by a held, a wish, or seats that are moved; and packing it up."""

from keeplog.counting import reached
from keeplog.filling import cut_off, put
from keeplog.keepers import seats_now
from keeplog.packs import pack_at
from keeplog.rows import agrees, end_of, entry_at, term_at
from keeplog.seats import one_off, seats_place
from keeplog.stores import answer_of, applied, number_of


def with_place(places, number, place):
    return places[:number] + (place,) + places[number + 1:]


def enter(keeper, what):
    keeper.row = put(keeper.row, (keeper.term, what))


def told_letter(keeper, caller, number):
    return ("told", keeper.number, caller, number, answer_of(keeper.store, caller, number))


def tell_waiting(keeper, place):
    here = [wait for wait in keeper.waits if wait[2] == place]
    keeper.waits = tuple([wait for wait in keeper.waits if wait[2] != place])
    # A wish that came in behind a greater number of its caller was not done, so there is nothing to tell.
    answered = [wait for wait in here if number_of(keeper.store, wait[0]) == wait[1]]
    return [told_letter(keeper, wait[0], wait[1]) for wait in answered]


def agree_on_the_following(keeper):
    place = keeper.agreed + 1
    keeper.store = applied(keeper.store, entry_at(keeper.row, place)[1])
    keeper.agreed = place
    return tell_waiting(keeper, place)


def place_held_by_most(keeper):
    # No letter tells a head what it holds itself.
    held = with_place(keeper.held, keeper.number, end_of(keeper.row))
    return reached(seats_now(keeper), held)


def is_out(keeper):
    # As long as the seats are not agreed it has to go on, though it is none of them: they may need it for that.
    return seats_place(keeper.row) <= keeper.agreed and keeper.number not in seats_now(keeper)


def step_back(keeper):
    keeper.way = "plain"
    keeper.head = None
    keeper.waits = ()


def agree(keeper):
    place = place_held_by_most(keeper)
    letters = []
    # Most may tell of a place above its end, by letters that no keeper wrote; agrees is False of such a place.
    if agrees(keeper.row, place, keeper.term):
        while keeper.agreed < place:
            letters.extend(agree_on_the_following(keeper))
    if is_out(keeper):
        step_back(keeper)
    return letters


def hold(keeper, other, place):
    keeper.held = with_place(keeper.held, other, max(keeper.held[other], place))
    keeper.nexts = with_place(keeper.nexts, other, max(keeper.nexts[other], place + 1))


def go_back(keeper, other, place):
    # Never to what the other one is known to hold: the letter may be an old one, brought late.
    following = max(keeper.held[other] + 1, min(keeper.nexts[other], place + 1))
    keeper.nexts = with_place(keeper.nexts, other, following)


def take_held(keeper, letter):
    other = letter[1]
    keeper.hear(letter[3])
    if keeper.way != "head" or letter[3] != keeper.term:
        return []
    if not letter[4]:
        go_back(keeper, other, letter[5])
        return []
    hold(keeper, other, letter[5])
    return agree(keeper)


def take_wish(keeper, letter):
    caller = letter[1]
    number = letter[3]
    if keeper.way != "head":
        return [("away", keeper.number, caller, number, keeper.head)]
    known = number_of(keeper.store, caller)
    if number < known:
        return []
    if number == known:
        return [told_letter(keeper, caller, number)]
    enter(keeper, ("wish", caller, number, letter[4]))
    keeper.waits = keeper.waits + ((caller, number, end_of(keeper.row)),)
    return agree(keeper)


def may_move(keeper, seats):
    if keeper.way != "head" or seats_place(keeper.row) > keeper.agreed:
        return False
    # A head that has agreed on nothing in its own term may not know yet which seats are agreed.
    return term_at(keeper.row, keeper.agreed) == keeper.term and one_off(seats_now(keeper), seats)


def move(keeper, seats):
    if not may_move(keeper, seats):
        return (False, [])
    enter(keeper, ("seats", seats))
    return (True, agree(keeper))


def pack_up(keeper, place):
    if place <= keeper.row[0] or place > keeper.agreed:
        return False
    keeper.pack = pack_at(keeper.pack, keeper.row, place)
    keeper.row = cut_off(keeper.row, place)
    return True
