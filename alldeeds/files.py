"""Files: texts of ends, deeds and programs with names."""

from alldeeds.checks import check_text
from alldeeds.deeds import Deed
from alldeeds.deedtexts import deed_text
from alldeeds.errors import NotAFile, NotAText
from alldeeds.filereading import take_items, told_item
from alldeeds.formtexts import ends_text
from alldeeds.items import check_file, deed_of_item
from alldeeds.programtexts import program_text
from alldeeds.reading import Reader


def items_read(text):
    """The list of the items of the text, right or wrong; NotAFile if it has not the shape of a file."""
    try:
        return take_items(Reader(text))
    except NotAText as error:
        begin = text[:error.at]
        raise NotAFile(begin.count("\n") + 1, len(begin) - begin.rfind("\n") - 1)


def read_file(text):
    """The file of the text."""
    check_text(text)
    return tuple([told_item(triple) for triple in items_read(text)])


def text_behind_name(item):
    """The text of an item but its first line."""
    if item[0] == "ends":
        return ends_text(item[2]) + "\n"
    if item[0] == "deed":
        return deed_text(Deed(item[2]))
    return program_text(item[2], item[3]) + "\n"


def written_file(file):
    """The text of what is known to be a file."""
    return "".join([f"{item[0]} {item[1]}\n" + text_behind_name(item) for item in file])


def file_text(file):
    """The text of the file."""
    check_file(file)
    return written_file(file)


def deeds_of(file):
    """The dict from the names of the deeds and programs to their Deeds."""
    check_file(file)
    return {item[1]: deed_of_item(item) for item in file if item[0] != "ends"}
