"""Letters: a sign and a look each, told as numbers one behind the other."""


def is_sign(number):
    return number == 10 or 32 <= number <= 126


def is_look(number):
    return 0 <= number <= 99


def letters_told(numbers):
    """The letters, each as (sign, look), or None if the numbers tell no letters."""
    if len(numbers) % 2 != 0:
        return None
    letters = []
    for at in range(0, len(numbers), 2):
        if not is_sign(numbers[at]) or not is_look(numbers[at + 1]):
            return None
        letters.append((numbers[at], numbers[at + 1]))
    return letters


def numbers_of_letters(letters):
    numbers = []
    for letter in letters:
        numbers.append(letter[0])
        numbers.append(letter[1])
    return numbers
