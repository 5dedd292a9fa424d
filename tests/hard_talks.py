"""Talks whose closed table there is though no telling fits them: kinds of the things, and a row for each two."""

HARD = (
    ("sssss", (
        "a b begins begun lapped met behind", "a c ahead ended holds begun", "a d overlaps begins holds lapped",
        "a e meets ended met behind", "b c ahead begun behind", "b d within holds",
        "b e ahead overlaps within ends begun", "c d overlaps ended behind", "c e begins same ended met",
        "d e within ends ended lapped behind",
    )),
    ("sssss", (
        "a b overlaps begins within ends same ended begun", "a c meets same ended holds begun behind",
        "a d meets within ended lapped", "a e meets ends same holds", "b c ends holds met",
        "b d same holds lapped behind", "b e ends ended met", "c d overlaps ended begun", "c e overlaps begins holds",
        "d e ends ended lapped behind",
    )),
    ("sssss", (
        "a b meets same holds begun", "a c ends holds begun lapped behind", "a d same begun lapped met",
        "a e ended holds met", "b c ends begun lapped met", "b d overlaps begins met", "b e within met",
        "c d begins ends holds behind", "c e overlaps within lapped", "d e ended lapped behind",
    )),
    ("sssss", (
        "a b overlaps ends lapped behind", "a c within ends same ended begun",
        "a d overlaps ends same ended holds begun lapped", "a e ahead overlaps within behind", "b c ahead same begun",
        "b d within same ended", "b e ahead within met", "c d begins same behind", "c e ahead begins holds met",
        "d e begins within holds",
    )),
    ("pssss", (
        "a b ahead begins", "a c ahead within", "a d ahead within", "a e begins within ends",
        "b c within holds behind", "b d overlaps lapped", "b e begun behind", "c d ends ended", "c e begun lapped",
        "d e same begun lapped",
    )),
    ("sssps", (
        "a b ended begun met", "a c meets ended lapped", "a d ended begun behind", "a e ended holds behind",
        "b c begins ends same met", "b d ahead ended behind", "b e meets begun", "c d ended holds",
        "c e ahead holds begun", "d e ahead begins ends",
    )),
    ("sssss", (
        "a b ahead same begun", "a c within ends ended", "a d ahead begins begun", "a e overlaps ends",
        "b c within ended", "b d begins begun", "b e meets overlaps ends", "c d ended lapped",
        "c e meets begins begun", "d e within ended begun",
    )),
    ("sssss", (
        "a b ahead begins begun", "a c within ends same lapped", "a d overlaps ended lapped",
        "a e overlaps holds behind", "b c ends ended behind", "b d ends holds", "b e overlaps behind",
        "c d within ended holds begun", "c e meets overlaps", "d e meets holds",
    )),
    ("sspps", (
        "a b meets holds lapped", "a c ended holds behind", "a d ahead holds begun", "a e meets overlaps ends begun",
        "b c ahead ended begun", "b d ahead begun", "b e begins holds begun", "c d ahead same", "c e ahead ends",
        "d e ahead within ends",
    )),
    ("spsss", (
        "a b ahead ended holds begun", "a c meets begins within ends same begun lapped", "a d meets begins begun met",
        "a e same met behind", "b c ahead begins ends", "b d begins ends", "b e within behind", "c d meets begun met",
        "c e begins lapped met", "d e ends met",
    )),
    ("ssssp", (
        "a b ends lapped", "a c meets begins within same", "a d meets within ends same begun lapped met",
        "a e ended behind", "b c meets begins ended", "b d ahead ended", "b e ahead ended holds",
        "c d ends same holds", "c e ended begun", "d e ahead begun behind",
    )),
    ("sssss", (
        "a b same ended begun met", "a c ends ended holds", "a d ends same begun met", "a e same ended met",
        "b c meets overlaps ended lapped", "b d overlaps same", "b e meets same lapped", "c d within ends same",
        "c e meets same ended lapped", "d e overlaps same holds",
    )),
    ("sssss", (
        "a b ended begun", "a c same begun behind", "a d ends ended begun", "a e begun lapped", "b c ends same",
        "b d overlaps begins ends", "b e overlaps ends met", "c d overlaps same ended", "c e ends begun behind",
        "d e ends ended met behind",
    )),
)


def hard_talks():
    """These as talks."""
    kinds = {"p": "point", "s": "stretch"}
    talks = []
    for signs, rows in HARD:
        things = tuple((name, kinds[sign]) for name, sign in zip("abcde", signs))
        split = [row.split(" ") for row in rows]
        talks.append((things, tuple(("may", a, b, tuple(words)) for a, b, *words in split)))
    return talks
