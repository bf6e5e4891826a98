"""Numbers that go round in a ring, and the places that bear them."""


def ahead(ring, one, other):
    return (other - one) % ring


def within(ring, start, many, number):
    return ahead(ring, start, number) < many


def unrolled(ring, low, number):
    return low + ahead(ring, low, number)


def unrolled_row(ring, low, numbers):
    places = []
    place = low
    for number in numbers:
        place = unrolled(ring, place, number)
        places.append(place)
    return places
