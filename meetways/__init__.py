"""Meetways: ways through ties that are there at told moments only."""
