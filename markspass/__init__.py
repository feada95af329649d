"""Markspass: documents of marks that pass tag by tag before readers without a pile."""
