"""Divisors of numbers, and the lists that belong to them as factors of flat windows. Nothing is checked here."""

from frameseams.entries import divided, spread


def prime_divisors(number):
    """The ascending list of the primes that divide the number."""
    primes = []
    left = number
    for prime in range(2, number + 1):
        if left % prime == 0:
            primes.append(prime)
        while left % prime == 0:
            left //= prime
        if left == 1:
            break
    return primes


def phi(number):
    """How many of 1 to number have no common divisor with it."""
    many = number
    for prime in prime_divisors(number):
        many -= many // prime
    return many


def divisors_of_any(numbers):
    """The ascending list of all divisors of the numbers, 1 included."""
    divisors = range(1, max(numbers) + 1)
    return [divisor for divisor in divisors if any([number % divisor == 0 for number in numbers])]


def mark_factor(mark):
    """The list of phi(mark) + 1 integers that the flat window of mark has as a factor, and no smaller flat window."""
    factor = [1, -1]
    left = mark
    for prime in prime_divisors(mark):
        # Spreading by a new prime keeps the factor itself and adds the one that belongs to it and the prime.
        factor = divided(spread(factor, prime), factor)
        left //= prime
    # A prime that divides the mark more than once adds nothing but zeros.
    return spread(factor, left)
