"""Divisors of whole numbers and inverses for a modulus."""


def common_divisor(numbers):
    """Return the greatest common divisor of the numbers, 0 for no numbers."""
    divisor = 0
    for number in numbers:
        other = abs(number)
        while other != 0:
            divisor, other = other, divisor % other
    return divisor


def inverse_for(number, modulus):
    """Return the x in range(modulus) for which number * x is 1 for the modulus.

    The number and the modulus have no common divisor but 1.
    """
    older, newer = modulus, number % modulus
    # Each of the two is, for the modulus, its own factor times the number.
    older_factor, newer_factor = 0, 1
    while newer != 0:
        quotient = older // newer
        older, newer = newer, older - quotient * newer
        older_factor, newer_factor = newer_factor, older_factor - quotient * newer_factor
    return older_factor % modulus


def ceiling_quotient(number, divisor):
    """Return the quotient, rounded up."""
    return -(-number // divisor)
