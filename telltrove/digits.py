"""Numbers as bytes, the highest byte first."""


def length_for(many):
    """The least number of bytes in which each of so many numbers, from 0 on, can be written."""
    length = 0
    reach = 1
    while reach < many:
        length += 1
        reach = reach * 256
    return length


def digits_of(number, length):
    """A number in so many bytes."""
    digits = []
    for _ in range(length):
        number, low = divmod(number, 256)
        digits.append(low)
    return tuple(digits[::-1])


def number_from(digits):
    """The number that bytes tell."""
    number = 0
    for digit in digits:
        number = number * 256 + digit
    return number
