"""Onwardasks: things that are asked names and pass unknown names on."""
