"""The tests of the program. Run them from the top folder: python3 -m unittest"""
