"""Sets of small whole numbers as the bits of one int, for searches that compare many of them."""


def bits_of(numbers):
    """The int whose bits are the numbers of a list."""
    bits = 0
    for number in numbers:
        bits = bits | 1 << number
    return bits


def listed(bits):
    """The ascending list of the bits of an int."""
    return [at for at in range(bits.bit_length()) if bits >> at & 1]


def bit_counts(width):
    """For each int of so many bits the number of bits that are 1."""
    counts = [0]
    for bits in range(1, 1 << width):
        counts.append(counts[bits >> 1] + (bits & 1))
    return counts
