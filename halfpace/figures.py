"""Numbers written to the base of a pace, and laid out in blocks."""


def figures_of(number, pace):
    """The list of a number's figures, the foremost first."""
    figures = []
    while number > 0:
        number, rest = divmod(number, pace)
        figures.append(rest)
    return figures[::-1]


def number_of(figures, pace):
    """The number that has these figures, noughts ahead left out."""
    number = 0
    for rest in figures:
        number = number * pace + rest
    return number


def blocks(first, last, pace):
    """The fewest blocks (a, k) that have just the numbers from first to last, in order."""
    front = []
    back = []
    level = 0
    low = first
    high = last + 1
    # At each level the blocks from low to high - 1 are still to be told. Those that
    # fill no whole block of the next level must be told here; all others wait for it.
    while low < high:
        while low < high and low % pace != 0:
            front.append((low, level))
            low += 1
        while low < high and high % pace != 0:
            high -= 1
            back.append((high, level))
        low = low // pace
        high = high // pace
        level += 1
    return front + back[::-1]
