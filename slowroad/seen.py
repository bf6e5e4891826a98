"""A walk seen as a schedule of the bare pair: one side sends, the other one takes."""

ITEM_WORDS = ("new", "again")
TAKEN_WORDS = ("filed", "old")


def schedule_of(rows, side):
    sent = turns_of_sendings(rows)
    turns = many_turns(rows)
    comings = [[] for turn in range(turns)]
    answers = [[] for turn in range(turns)]
    items = [None for turn in range(turns)]
    for row in rows:
        if is_item(row, side):
            items[row[1]] = row[6]
        if is_coming(row, 1 - side):
            comings[row[1]].append(sent[(side, row[3])])
        if is_answer(row, side):
            answers[row[1]].append(sent[(1 - side, row[3])])
    return list(zip(comings, answers, items))


def turns_of_sendings(rows):
    turns = {}
    for row in rows:
        if row[0] == "sent":
            turns[(row[2], row[3])] = row[1]
    return turns


def many_turns(rows):
    # Each turn that is done tells how side 0 stands, once.
    return len([row for row in rows if row[0] == "end" and row[2] == 0])


def is_item(row, side):
    return row[0] == "sent" and row[2] == side and row[5] in ITEM_WORDS


def is_coming(row, side):
    return row[0] == "came" and row[2] == side and row[5] in TAKEN_WORDS


def is_answer(row, side):
    return row[0] == "came" and row[2] == side and row[5] != "spoilt"
