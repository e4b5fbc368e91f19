"""Just so many of some numbers whose sum so many divide."""


def share_lot(n, numbers):
    """None, or some lot of just n indices whose numbers have a sum that n divides."""
    # One lot is enough for each number of indices and what n leaves of their sum.
    lots = {(0, 0): ()}
    for at, number in enumerate(numbers):
        ahead = list(lots.items())
        for (many, rest), lot in ahead:
            key = (many + 1, (rest + number) % n)
            if many < n and key not in lots:
                lots[key] = lot + (at,)
    return lots.get((n, 0))


def lacking_numbers(n):
    """As many numbers as can be without such a lot."""
    return (0,) * (n - 1) + (1,) * (n - 1)
