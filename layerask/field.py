"""Numbers modulo a prime (point 2)."""

from layerask.errors import FieldError

GREATEST_MODULUS = 2147483647


def is_prime(number):
    """Whether an integer from 0 to 2147483647 is a prime."""
    if number < 4:
        return number > 1
    if number % 2 == 0:
        return False
    divisor = 3
    while divisor * divisor <= number:
        if number % divisor == 0:
            return False
        divisor += 2
    return True


def check_modulus(p):
    """Raises FieldError if an integer is not a modulus."""
    if p < 2 or p > GREATEST_MODULUS or not is_prime(p):
        raise FieldError(p)


def power(base, exponent, p):
    """The power of any integer modulo p."""
    result = 1
    square = base % p
    left = exponent
    while left > 0:
        if left & 1:
            result = result * square % p
        square = square * square % p
        left = left >> 1
    return result


def inverse(number, p):
    """The number whose product with the given one is 1 modulo p."""
    if number % p == 0:
        raise FieldError(number)
    return power(number, p - 2, p)


def is_number(number, p):
    """Whether an integer is a number modulo p."""
    return 0 <= number < p


def is_integer_kind(thing):
    """Whether a thing of any kind is an integer; True and False are none."""
    return isinstance(thing, int) and not isinstance(thing, bool)


def are_numbers(thing, many, p):
    """Whether a thing of any kind is a list of so many numbers modulo p."""
    if not isinstance(thing, list) or len(thing) != many:
        return False
    return all(is_integer_kind(entry) and is_number(entry, p) for entry in thing)
