"""Sums of the quotients of numbers over ranges of sizes.

Up to the root of a number there are few sizes. Beyond the root the sizes are many, but the quotients are few, and how
many sizes reach a quotient is again a quotient. So for each number there are two ranges of divisors, both up to the
root, whose quotients are needed. Where the ranges of several numbers overlap, the numbers are divided together.
"""

from math import isqrt

# Beneath these, dividing numbers together takes longer than dividing them one by one.
FEW_NUMBERS = 3
FEW_DIVISIONS = 500


def sum_quotients(numbers, first, last):
    """Return the sum of number // size over all of the numbers and the sizes from first to last."""
    total = 0
    ranges = []
    for number in sorted(set(numbers)):
        many = numbers.count(number)
        beyond = min(max(first, isqrt(number) + 1), last + 1)
        # The sizes from `beyond` on have quotients up to the greatest one. Each quotient counts once for each of these
        # sizes that reaches it: up to the least quotient these are all, then those up to number // quotient.
        least = number // (last + 1)
        greatest = number // beyond
        total = total + many * (least * last - greatest * (beyond - 1))
        ranges.append((first, beyond, number, many))
        ranges.append((least + 1, greatest + 1, number, many))
    return total + sum_ranges(ranges)


def sum_ranges(ranges):
    """Return the sum of the quotients for ranges (start, stop, number, how many times)."""
    if sum([stop - start for start, stop, _, _ in ranges]) < FEW_DIVISIONS:
        return sum([many * divide_alone(number, start, stop) for start, stop, number, many in ranges])
    edges = sorted({edge for start, stop, _, _ in ranges for edge in (start, stop)})
    total = 0
    for low, high in zip(edges, edges[1:]):
        wanted = {}
        for start, stop, number, many in ranges:
            if start <= low and high <= stop:
                wanted[number] = wanted.get(number, 0) + many
        total = total + sum_wanted(wanted, low, high)
    return total


def sum_wanted(wanted, start, stop):
    """Return the sum for one range of divisors; `wanted` tells how many times for each number."""
    numbers = list(wanted)
    if len(numbers) < FEW_NUMBERS:
        sums = [divide_alone(number, start, stop) for number in numbers]
    else:
        sums = divide_together(numbers, start, stop)
    return sum([wanted[number] * found for number, found in zip(numbers, sums)])


def divide_alone(number, start, stop):
    """Return the sum of number // size over the sizes from start on, below stop."""
    return sum([number // size for size in range(start, stop)])


def divide_together(numbers, start, stop):
    """Return the same sum for each of the numbers.

    The numbers stand side by side in one integer, each in a field. For each size they are multiplied by a factor that
    is a bit more than unit / size. So each field gets its quotient, times the unit, and a rest below the unit, which is
    masked off. That the factor is too great by at most stop / size changes no quotient, as number * stop is below the
    unit.
    """
    greatest = max(numbers)
    shift = (greatest * stop).bit_length()
    # The sum of 1 / size over all of the sizes is at most the number of bits of `stop`.
    width = (greatest * stop.bit_length()).bit_length()
    places = [index * (shift + width) for index in range(len(numbers))]
    packed = sum([number << place for number, place in zip(numbers, places)])
    field = (1 << width) - 1
    mask = sum([field << place + shift for place in places])
    # Divided by a size, this gives a factor that is not less than unit / size.
    above = (1 << shift) + stop
    total = 0
    for size in range(start, stop):
        total = total + (packed * (above // size) & mask)
    return [total >> place + shift & field for place in places]
