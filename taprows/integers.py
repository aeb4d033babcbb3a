"""Powers, inverses and prime divisors of integers."""


def power_of(base, exponent):
    """The power of an integer with an exponent from 0 on, by squaring."""
    result = 1
    for place in reversed(range(exponent.bit_length())):
        result = result * result
        if exponent >> place & 1:
            result = result * base
    return result


def inverse(prime, number):
    """The number that times a number other than 0 is 1."""
    other = 1
    while number * other % prime != 1:
        other += 1
    return other


def power_modulo(base, exponent, modulus):
    """The rest of a power by a modulus from 1 on."""
    result = 1 % modulus
    for place in reversed(range(exponent.bit_length())):
        result = result * result % modulus
        if exponent >> place & 1:
            result = result * base % modulus
    return result


def prime_divisors(number):
    """The ascending list of the prime numbers that divide an integer from 1 on."""
    found = []
    divisor = 2
    while divisor * divisor <= number:
        if number % divisor == 0:
            found.append(divisor)
            while number % divisor == 0:
                number = number // divisor
        divisor += 1 if divisor == 2 else 2
    return found + [number] if number > 1 else found
