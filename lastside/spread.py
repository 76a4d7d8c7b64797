"""Spreads: how many flags lie in which distance from flags, in hits.

A polynomial is the list of its coefficients, that of z to the power 0 first.
"""

from lastside.checks import check_flags
from lastside.trails import all_trails


def plus(first, second):
    """The sum of two polynomials."""
    total = [0] * max(len(first), len(second))
    for term in (first, second):
        for power, number in enumerate(term):
            total[power] += number
    return total


def times(first, second):
    """The product of two polynomials."""
    total = [0] * (len(first) + len(second) - 1)
    for power, number in enumerate(first):
        for other_power, other in enumerate(second):
            total[power + other_power] += number * other
    return total


def stripped(numbers):
    """The list up to its last number that is not 0."""
    last = max([power for power, number in enumerate(numbers) if number != 0])
    return numbers[:last + 1]


def spread_to(tree, flags):
    """The numbers of flags from which the flags are reached in so many hits and not in fewer."""
    check_flags(tree, flags)
    forks_of = {hang: forks for slot, forks, hang in all_trails(tree, flags)}
    found = {}
    # What hangs on the trail that begins at a fork hangs on forks below it, which come earlier in postorder.
    for hang in list(tree.walk(last=True)) + [None]:
        product = [1]
        for fork in forks_of[hang]:
            product = times(product, found[fork])
        found[hang] = plus([1, -1], [0] + [number << len(forks_of[hang]) for number in product])
    return stripped(found[None])


def spread_from(tree, flags):
    """The numbers of flags that are reached from the flags in so many hits and not in fewer."""
    check_flags(tree, flags)
    found = {("slot", slot): ([1], [1]) for slot in range(len(tree))}
    for fork in tree.walk(last=True):
        left, right = tree.sides(fork)
        differing = plus(times(found[left][0], found[right][1]), times(found[right][0], found[left][1]))
        found[("fork", fork)] = (differing, plus([1], [0] + plus(differing, [-1])))
    return stripped(found[tree.top][1])


def greatest_distance(tree):
    """The greatest least number of hits between two flags of the tree."""
    sides = [tree.sides(fork) for fork in tree.walk()]
    return len([pair for pair in sides if "slot" in [kind for kind, number in pair]])
