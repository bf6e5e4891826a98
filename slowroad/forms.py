"""The rows of a kept walk, one at a time: each is written, and read again where it has its form and a walk takes it."""

from slowroad.errors import BadRoad, BadTerms, NotWide
from slowroad.roads import check_road
from slowroad.terms import Terms
from slowroad.walk import is_wish

FIGURES = "0123456789"
FIGURES_MOST = 9
TURNS_MOST = 4000
SIDE_WORDS = ("0", "1")
NO_COPY = "-"


def number_of(word):
    if not 1 <= len(word) <= FIGURES_MOST or not all([sign in FIGURES for sign in word]):
        return None
    if word[0] == "0" and word != "0":
        return None
    return int(word)


def numbers_of(words):
    numbers = [number_of(word) for word in words]
    return None if None in numbers else numbers


def row_of_numbers(word, numbers):
    return " ".join([word] + [str(number) for number in numbers])


def row_of_terms(terms):
    return row_of_numbers("terms", [terms.ring, terms.rooms[0], terms.rooms[1], terms.lag, terms.first, terms.longest])


def terms_of(row):
    words = row.split(" ")
    numbers = numbers_of(words[1:])
    if words[0] != "terms" or numbers is None or len(numbers) != 6:
        return None
    try:
        return Terms(numbers[0], (numbers[1], numbers[2]), numbers[3], numbers[4], numbers[5])
    except (BadTerms, NotWide):
        return None


def word_of_copy(copy):
    return ",".join([str(number) for number in copy])


def word_of_deed(deed):
    return NO_COPY if len(deed) == 0 else "+".join([word_of_copy(copy) for copy in deed])


def row_of_road(side, deeds):
    return " ".join(["road", str(side)] + [word_of_deed(deed) for deed in deeds])


def copy_of(word):
    numbers = numbers_of(word.split(","))
    return None if numbers is None or len(numbers) != 3 else tuple(numbers)


def deed_of(word):
    if word == NO_COPY:
        return []
    copies = [copy_of(part) for part in word.split("+")]
    return None if None in copies else copies


def side_of_road(row):
    words = row.split(" ")
    if len(words) < 2 or words[0] != "road" or words[1] not in SIDE_WORDS:
        return None
    return number_of(words[1])


def deeds_of(row, lag):
    deeds = [deed_of(word) for word in row.split(" ")[2:]]
    if None in deeds:
        return None
    try:
        check_road(deeds, lag)
    except BadRoad:
        return None
    return deeds


def row_of_wish(wish):
    words = ["wish", str(wish[0]), str(wish[1]), wish[2]]
    return " ".join(words if wish[3] is None else words + [str(wish[3])])


def wish_of(row):
    # What is put may hold blanks, so all behind the fourth one is a single word.
    words = row.split(" ", 4)
    if len(words) < 4 or words[0] != "wish":
        return None
    wish = (number_of(words[1]), number_of(words[2]), words[3], value_of(words[3], words[4:]))
    return wish if is_wish(wish) else None


def value_of(word, behind):
    if len(behind) == 0:
        return None
    return number_of(behind[0]) if word == "read" else behind[0]


def turns_of(row, word):
    words = row.split(" ")
    if len(words) != 2 or words[0] != word:
        return None
    turns = number_of(words[1])
    return None if turns is None or turns > TURNS_MOST else turns
