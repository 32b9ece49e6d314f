"""Amongalike: tables shown so that everybody is among so many alike."""
