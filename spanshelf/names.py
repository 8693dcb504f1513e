"""Names: texts of one to eight small letters a to z."""

from spanshelf.errors import NoName

LONGEST_NAME = 8


def is_name(text):
    return 1 <= len(text) <= LONGEST_NAME and all("a" <= sign <= "z" for sign in text)


def check_name(text):
    if not is_name(text):
        raise NoName("a name is one to eight small letters a to z")
