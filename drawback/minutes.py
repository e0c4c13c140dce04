"""The minutes of a house, written and read."""

from drawback.deeds import deed_line, read_deed, read_numbers
from drawback.errors import BadMinutes, BadText, CustomsError
from drawback.house import House


def written(house):
    """The minutes of a house: its terms, and a row for each deed that counts."""
    term, limit, share = house.terms()
    rows = [f"house {term} {limit} {share}"]
    return "\n".join(rows + [deed_line(deed) for deed in house.deeds()])


def read_terms(row):
    """A new house of the terms that the first row of minutes writes."""
    name, *words = row.split(" ")
    numbers = read_numbers(words)
    if name != "house" or len(numbers) != 3:
        raise BadText("the row writes no terms of a house")
    term, limit, share = numbers
    return House(term, limit, share)


def read_minutes(text):
    """The house in which the deeds of minutes were done."""
    first, *rows = text.split("\n")
    try:
        house = read_terms(first)
    except CustomsError:
        raise BadMinutes(0)
    for at, row in enumerate(rows, start=1):
        try:
            house.do(read_deed(row))
        except CustomsError:
            raise BadMinutes(at)
    return house
