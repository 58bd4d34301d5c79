"""Tables: lists of tuples (I, J, TIMES), TIMES being the number with x taken I times and y J times.

Any list of such tuples may be handed in; what is told is sorted, each I and J once, no TIMES of 0.
"""


def worth(table, x, y):
    return sum([times * taken(x, i) * taken(y, j) for i, j, times in table])


def added(one, other):
    return gathered(one + other)


def multiplied(one, other):
    products = []
    for i, j, times in one:
        products.extend([(i + more_i, j + more_j, times * more) for more_i, more_j, more in other])
    return gathered(products)


def exchanged(table):
    return gathered([(j, i, times) for i, j, times in table])


def gathered(tuples):
    sums = {}
    for i, j, times in tuples:
        sums[(i, j)] = sums.get((i, j), 0) + times
    return sorted([(place[0], place[1], times) for place, times in sums.items() if times != 0])


def taken(number, often):
    # Squared step by step, so that a great I or J costs no long walk where x or y is -1, 0 or 1.
    product = 1
    while often > 0:
        if often % 2 == 1:
            product = product * number
        often = often // 2
        if often > 0:
            number = number * number
    return product
