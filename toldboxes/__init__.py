"""Toldboxes: devices that tests can prove."""
