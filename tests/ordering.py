"""The tests' own patterns of commands."""

import re

NAME = "[a-z][a-z0-9]{0,11}"
COUNT = "(?:0|[1-9][0-9]{0,5})"
COUNTS = f"{COUNT}(?:,{COUNT})*"
CLOCK = "(?:(?:[0-2][0-9]|3[0-2]):[0-5][0-9]|33:[01][0-9])"
TEXT = r"[\s\S]+"
PROMISE = f"(?:meets {COUNT}|leaves {COUNT} {COUNT} {COUNT}|(?:ends|driven|long) {COUNT} {COUNT})"
REMEDY = f"(?:(?:wait|spare|cut) {COUNT} {COUNT}|(?:free|drop) {COUNT})"
CLAIM = (
    f"(?:(?:keeps|breaks) {NAME}|(?:safe|misleads) {NAME} {COUNT} (?:least {COUNT}|now)|(?:surely|perhaps) {NAME} {NAME} {COUNT}"
    f"|(?:alike|unlike|same|parted) {NAME} {NAME}|(?:within|above) {NAME} {NAME} {COUNT})"
)
DEEDS = [
    f"plan {NAME} {TEXT}", f"way {NAME} {NAME} {TEXT}", f"tickets {NAME}", f"passages {NAME}",
    f"ticket {NAME} {COUNT} {COUNT} {COUNTS} {COUNT}", f"passage {NAME} {COUNT} {COUNT} {COUNTS}", f"strike {NAME} {COUNT}",
    f"budget {NAME} {COUNT}", f"bound {NAME} {COUNT} {COUNT} {COUNT}", f"spares {NAME} (?:-|{COUNT} {COUNT} {COUNT})",
    f"told {NAME} {COUNT} {CLOCK}(?:,{CLOCK})*", f"meet {NAME} {COUNT} {COUNT} {COUNT} {COUNT} {COUNT} (?:blind|news)",
    f"wait {NAME} {COUNT} {COUNT} (?:blind|news)", f"part {NAME} {COUNT}", f"promise {NAME} {PROMISE}", f"release {NAME} {COUNT}",
    f"hear {NAME} {COUNTS}", f"remedy {NAME} {REMEDY}", f"copy {NAME} {NAME}", f"drop {NAME}", f"claim {NAME} {CLAIM}", f"forget {NAME}",
]
QUESTIONS = [
    "undo", "redo", f"state {NAME}", "states", f"claimed {NAME}", "names", f"sort {NAME}", f"show {NAME}", f"equal {NAME} {NAME}",
    f"heard {NAME}", f"next {NAME}", f"moment {NAME}", f"sign {NAME} {COUNT} (?:least|now)", f"can {NAME}", f"least {NAME}",
    f"late {NAME} {COUNT}", f"price {NAME} {NAME}",
]


def is_deed_line(line):
    return any(re.fullmatch(form, line) for form in DEEDS)


def is_line(line):
    return is_deed_line(line) or any(re.fullmatch(form, line) for form in QUESTIONS)
