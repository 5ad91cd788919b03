"""Lamps on any network, switched one by one while their neighbours are lit oddly, or evenly."""
