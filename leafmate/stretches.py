"""The fewest lost leaves of a row, reckoned stretch by stretch."""


def least_lost(ways, many, bound):
    """The fewest lost of each stretch of a row of so many leaves, and the fewest lost ahead of each place.

    A pair: a dict of the stretches (i, j), each a gathering or what lies within a sheet; and a list of the places.
    Nothing in it is above the bound, which is not below 0 and stands where there is no way at all.
    """
    least = {(i, i): 0 for i in range(many + 1)}
    for length in range(1, many + 1):
        for i in range(many + 1 - length):
            j = i + length
            least[i, j] = min([bound] + [lost + least[i + x, j - y] for x, y, lost in ways[i, j]])
    starts = [0]
    for j in range(1, many + 1):
        starts.append(min([bound] + [starts[i] + least[i, j] for i in range(j)]))
    return least, starts
